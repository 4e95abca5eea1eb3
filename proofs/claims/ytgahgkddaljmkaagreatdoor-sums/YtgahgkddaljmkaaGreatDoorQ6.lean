/- Par10 .. Scope1 -/
import Derived.Test.YtgahgkddaljmkaaGreatDoorQ5
import Derived.Deep.DeepCutAuto
import Derived.RangeFuncNested
import Derived.RangeFuncBound
import Derived.OwnWalkIn
import Derived.TacticsInMore
import Derived.LoopNIn
import Derived.LoopIn
set_option maxRecDepth 100000
set_option maxHeartbeats 4000000
namespace Go.Proofs.YtgahgkddaljmkaaGreatDoor
open Tryz
open Go.RowKit
attribute [local go_sem ↓] Go.wp_at_zero Go.wp_at_succ
def zbD (ex:Th.Rd):Prop:=∀ c st q,ex c st=some q->q.2.bad=none->st.bad=none
theorem zc2(st:Th.St):(Th.zaL st).2.bad=none->st.bad=none:=by
 intro h;unfold Th.zaL at h;split at h
 ·simpa [Th.St.adv] using h
 ·simp only at h;unfold Th.St.fail at h;split at h
  ·simp at h
  ·exact h
variable {w wr w':World}{r tb eb:Nat}{T l:List Th.Tok}{es:List Th.Ex}{s1 s2:Th.St}{sv:Value}
theorem zkv.step{rc:Bool}(hB:zkv w wr r tb eb T rc l es s1 sv)(bd:r<w.heap.size)(hg:wr.grownBy w' (some r))(hs:RS w' r tb T s2)(hb:s2.bad=none->s1.bad=none):zkv w w' r tb eb T rc l es s2 sv:=by
 have fN:=hB.lo;obtain ⟨pvs,h1,h2,h3⟩:=hB.parts;refine ⟨hB.blk.grown hg (by simp;omega),fN,hs,zad hB.gb hg,hB.len,pvs,h1,h2.kept hg (zdi h2 (by omega)),fun aQ=>?_⟩;obtain ⟨n,hn⟩:=h3 (hb aQ);exact ⟨n,fun i pv p a b=>(hn i pv p a b).gb hg (fun k hk=>by cases hk;omega)⟩
variable {st:Th.St}
theorem zvv :st.fail.bad≠none:=by
 unfold Th.St.fail;split
 ·simp
 ·simp_all
variable {v:Value}{e:Th.Ex}
theorem zxH{rc:Bool}(hB:zkv w wr r tb eb T rc l es s1 sv)(bd:r<w.heap.size)(hg:wr.grownBy w' (some r))(aq:Got (zat wr) w' v e s2)(hb:s2.bad=none->s1.bad=none):
  Got (zat w) (w'.setCell ⟨eb,2,none⟩ v) (.iface 178 (.agg #[.bool rc,sv,v])) (Th.mkLet rc l es e) s2:=by
 have fN:=hB.lo;have xw:=hB.blk.lt;obtain ⟨pvs,h1,h2,h3⟩:=hB.parts;refine ⟨zb0 _ _,fun aQ=>?_⟩;obtain ⟨n1,cR⟩:=h3 (hb aQ);obtain ⟨n2,eY⟩:=aq.rep aQ;have hz:=hB.gb.size;have cS:=zaT w' eb 2 v;refine ⟨n1+n2+1,.inr (.inr (.inr (.inr (.inr (.inr (.inl ?_))))))⟩;refine ⟨by cases rc <;> simp[Th.mkLet],sv,v,e,es,pvs,rfl,by cases rc <;> rfl,hB.len.symm,h1,?_,?_,?_⟩
 ·have hk:=(h2.kept hg (zdi h2 (by omega))).kept cS (zdi h2 (by omega));exact ⟨za0 hk (zy5 _),fun b hb=>by have:=(hk.lt b hb).1;simp only[zat];omega⟩
 ·intro i pv p a b;exact (((cR i pv p a b).le (by omega)).gb hg (fun k hk=>by cases hk;omega)).gb cS (fun k hk=>by cases hk;omega)|>.mono (fun k _ h=>by simp only[zat];omega)
 ·exact ((eY.le (by omega)).gb cS (fun k hk=>by cases hk;simp only[zat];omega)).mono (fun k _ h=>by simp only[zat]at *;omega)
variable {ex:Th.Rd}{c:Bool}{k:Nat}{q:Th.Ex × Th.St}
theorem zyn(hx:zso ex)(hk:zbD ex)(uL:k<=1000000)(hq:Th.ztQ ex k c st=some q)(h:RS w r tb T st):
  Calls prog 193 #[.pointer (some ⟨r,0,none⟩),.bool c] w fun en w'=>Reads w r tb T q.1 q.2 en w':=by
 have bd:=h.lt;have cu:=h.tlt;obtain ⟨i0,dt,bq,aP,bF⟩:=info_parts zvE;have HI:=zab dt;clear dt;have HZ:=zab (And.intro bq (And.intro aP bF));clear bq aP bF;unfold Th.ztQ at hq;simp only[zyQ,zyP]at hq;obtain ⟨q1,cF,q2,bC,rfl⟩:=hq;generalize AK:st.is Th.zo8=rc at cF ⊢;have CG:=zab AK;obtain ⟨s0,bK⟩:∃ s,(if rc=true then st.adv else st)=s:=⟨_,rfl⟩;rw[bK]at cF;have qH:=zab bK;have oC:=zab cF;have oD:=zab bC;clear AK cF bC bK;cases k with
 |zero=>have:=oC.o;simp[Th.zcu]at this
 |succ k=>
  have hp:=oC.o;rw[Th.zcu]at hp;simp only[zyQ]at hp;obtain ⟨q3,mS,sS⟩:=hp;have qE:=zab mS;have vO:=zab sS;clear mS sS;go_enter func193,ntmps193
  go_wp2_with fail
  refine (zbG h ⟨#[114,101,99]⟩ (by simp)).mono ?_;rintro e w1 ⟨rfl,aW,bw⟩;rw[show st.is (ByteArray.mk #[114,101,99]).data.toList=rc from CG.o]at aW ⊢;rw[qH.o]at aW;have hz:=bw.size;have dS:Hid (zkv w (w1.alloc (.cells #[.bool rc,.slice none 0 0,.nilIface] 178)) r tb w1.heap.size T rc [] [] s0 (.slice none 0 0)):=
   zab ⟨Blk.new w1 [.bool rc,.slice none 0 0,.nilIface] 178,hz,aW.alloc _,zad bw (zag w1 _ _),rfl,[],rfl,World.ownsRow_nil _ _ _ _,fun _=>⟨0,fun i pv p hh _=>by simp at hh⟩⟩
  have nK:=zab (zdf dS.o.blk 1 (v:=.slice none 0 0) rfl);have dn:=zab (fun (W:World) (hW:RS W r tb T s0)=>zsI hx qE.o hW);clear h aW bw;go_wp2_with fail
  go_cut [10] (fun _ wc=>∃ sv,zkv w wc r tb w1.heap.size T rc [(Th.zaL s0).1] [q3.1] q3.2 sv)
  case first=>
   go_region_law (first
    |(refine step_append_lies _ (by rfl) _ _ _ (by rfl) (w1.heap.size+1) 312 i0 _ 3 40 underlying176 HI.o HZ.o.1 HZ.o.2.1 HZ.o.2.2 rfl (by omega) (.slice none 0 0) 0 [] (by rfl) (World.ownsRow_nil _ _ _ _) ⟨w2.heap.size,0,none⟩ 1 1 [.string ⟨(Th.zaL s0).1.s.toArray⟩,.int .i64 (Th.zaL s0).1.at_,v] (by rfl) (by rfl) (World.news_of_block (cs:=#[.string ⟨(Th.zaL s0).1.s.toArray⟩,.int .i64 (Th.zaL s0).1.at_,v]) (t:=312) (fr:=(0,0)) (heap_alloc_new w2 _)) (one3 bR) (by omega) (by unfold maxLen;omega) (by omega) (by simp;omega) (w2.heap.size+1) (by simp) ?_;intro g cap w3 ai ah aV aj;have h3:=zab ((H2.o.alloc _).gb ah (by simp[Value.ownBlock]));have uB:=h3.o.1;have zD:=h3.o.2)
    |(go_simp;go_wp2_with (go_at_call 249;refine (dn.o _ ?_).mono ?_;exact dS.o.rs.drew;rintro e w2 ⟨v,rfl,aq,aI,aF⟩;have bR:=aq.one.one;have j6:w1.heap.size<w2.heap.size:=(by have:=aF.size;simp at this;omega);have cj:=zab aq;have eS:=zab aI;have eK:=zab aF;have H2:=zab (nK.o.drew.gb aF (by simp;omega));have wL:=H2.o.1;have rq:=H2.o.2;clear aq aI)))
   all_goals
    go_wp2_with fail
    go_meet
    case rel=>
     exact ⟨_,dS.o.add (pvs:=[]) rfl (World.ownsRow_nil _ _ _ _) (fun _=>⟨0,fun i pv p hh _=>by simp at hh⟩) bd cu cj.o eS.o eK.o ai ah aV (fun hb=>zc2 _ (zaC [61] _ (hk _ _ _ qE.o hb)))⟩
  case rest=>
   obtain ⟨Ba,cU⟩:=hcut;have cB:=zab cU;clear cU;go_wp2_with fail
   go_loopg [17] k (fun g _ wr=>∃ l es s1 sv,zkv w wr r tb w1.heap.size T rc l es s1 sv/\l≠[]/\l.length+g<=k+1/\(if s1.is [59]=true then Th.zcu ex g l es s1.adv else some (l,es,s1))=some q1)
   case atStart=>exact ⟨_,_,_,_,cB.o,by simp,by simp;omega,vO.o⟩
   case round=>
    obtain ⟨l,es,s1,sv,hB,aH,mO,hp⟩:=hrel;have HB:=zab hB;have hs:=hB.rs;clear hB;cases h5:s1.is [59]
    ·rw[h5]at hp;simp only[zzw,if_false,zyP]at hp;subst hp;have H5:=zab h5;clear h5;go_wp2_with fail
     refine (zbG hs ⟨#[59]⟩ (by simp)).mono ?_;rintro e w4 ⟨rfl,bV,bM⟩;rw[show s1.is (ByteArray.mk #[59]).data.toList=false from H5.o]at bV ⊢;have j5:RS w4 r tb T s1:=by simpa using bV
     have gB:=zab (HB.o.step bd bM j5 (fun hb=>hb));clear hs bV bM;go_wp2_with fail
     refine (zaX j5 ⟨#[105,110]⟩ (by simp)).mono ?_;rintro e w5 ⟨rfl,fC,cH⟩;have kx:=zab (gB.o.step bd cH fC (zaC _ _));clear j5 cH;go_wp2_with fail
     refine (hx _ _ _ _ _ _ _ oD.o fC).mono ?_;rintro en w6 ⟨v,rfl,aq,jL,fk⟩;have lX:=kx.o.blk.grown fk (by simp;omega);have d0:=lX.cell 0;have d1:=lX.cell 1;have d2:=lX.cell 2;have f2:=lX.frozen 2;simp at d0 d1 d2;have cE:=zab (zxH kx.o bd fk aq (fun hb=>hk _ _ _ oD.o hb));have kb:=zab (zap (zad kx.o.gb fk) ⟨w1.heap.size,2,none⟩ v hz);have qL:=zab (jL.set w1.heap.size 2 v (by omega) (by omega));have ho:=aq.one;obtain ⟨pvs,-,af,-⟩:=kx.o.parts;have gV:=zan (Row.zaE af);clear fC aq jL fk lX af;rcases gV with rfl|⟨gs,iA,rfl⟩ <;> rcases ho.shape with rfl|⟨t1,x1,rfl⟩
     all_goals
      clear ho;go_wp2_with fail
      go_ret
      exact ⟨_,rfl,cE.o,qL.o,kb.o⟩
    ·rw[h5]at hp;simp only[if_true]at hp;cases gk with
     |zero=>simp[Th.zcu]at hp
     |succ g0=>
      rw[Th.zcu]at hp;simp only[zyQ]at hp;obtain ⟨q5,sT,sU⟩:=hp;have qF:=zab sT;have vP:=zab sU;have H5:=zab h5;have eP:=zab (fun (W:World) (hW:RS W r tb T s1.adv)=>zsI hx qF.o hW);clear h5 sT sU;go_wp2_with fail
      refine (zbG hs ⟨#[59]⟩ (by simp)).mono ?_;rintro e w4 ⟨rfl,bV,bM⟩;rw[show s1.is (ByteArray.mk #[59]).data.toList=true from H5.o]at bV ⊢;have j5:RS w4 r tb T s1.adv:=by simpa using bV
      have gB:=zab (HB.o.step bd bM j5 (fun _=>zie H5.o));obtain ⟨pvs,gK,af,aR⟩:=gB.o.parts;have gV:=zan (Row.zaE af);rcases gV with rfl|⟨gs,iA,rfl⟩
      ·exfalso;rcases af.2 with ⟨-,h0⟩|⟨_,_,_,h0,_⟩
       ·exact aH (zzn.1 h0)
       ·cases h0
      ·have uK:=(af.lt gs rfl);have HR:=zab (And.intro gK (And.intro af aR));have oO:=zab (zdf gB.o.blk 1 (v:=.slice (some ⟨gs,0,none⟩) l.length iA) rfl);have DL:=oO.o.1;have DM:=oO.o.2;have xF:=gB.o.blk.lt;clear hs bV bM j5 gK af aR;go_wp2_with fail
       go_region_law (first
        |(refine step_append_lies _ (by rfl) _ _ _ (by rfl) (w1.heap.size+1) 312 i0 _ 3 40 underlying176 HI.o HZ.o.1 HZ.o.2.1 HZ.o.2.2 rfl (by omega) (.slice (some ⟨gs,0,none⟩) l.length iA) l.length (zaM l pvs) (by rfl) (ly.alloc _) ⟨w5.heap.size,0,none⟩ 1 1 [.string ⟨(Th.zaL s1.adv).1.s.toArray⟩,.int .i64 (Th.zaL s1.adv).1.at_,v5] (by rfl) (by rfl) (World.news_of_block (cs:=#[.string ⟨(Th.zaL s1.adv).1.s.toArray⟩,.int .i64 (Th.zaL s1.adv).1.at_,v5]) (t:=312) (fr:=(0,0)) (heap_alloc_new w5 _)) (one3 bR) (by omega) (by unfold maxLen;omega) (by omega) (by simp;omega) (w5.heap.size+1) (by simp) ?_;intro g cap w6 ai ah aV aj;have h6:=zab ((ou.o.alloc _).gb ah (by simp[Value.ownBlock];omega));have DQ:=h6.o.1;have DR:=h6.o.2)
        |(go_simp;go_wp2_with (go_at_call 249;refine (eP.o _ ?_).mono ?_;exact gB.o.rs.drew;rintro e w5 ⟨v5,rfl,aq,fC,cH⟩;have bR:=aq.one.one;have x9:w1.heap.size<w5.heap.size:=(by have:=cH.size;simp at this;omega);have cj:=zab aq;have oF:=zab fC;have lS:=zab cH;have ou:=zab (oO.o.drew.gb cH (by simp;omega));have DO:=ou.o.1;have DP:=ou.o.2;have ly:=HR.o.2.1.drew.kept cH (zdi HR.o.2.1 (by omega));clear aq fC)))
       all_goals
        go_wp2_with fail
        go_roundg g0
        case measure=>omega
        case rel=>
         exact ⟨_,_,_,_,gB.o.add HR.o.1 HR.o.2.1 HR.o.2.2 bd cu cj.o oF.o lS.o ai ah aV (fun hb=>zc2 _ (zaC [61] _ (hk _ _ _ qF.o hb))),by simp,by simp;omega,vP.o⟩
theorem zxr:(prog.info? 240).map (fun i=>(i.zero,i.size,i.bytes))=some (some (.agg #[.int .i64 0,.slice none 0 0,.nilIface]),3,48):=by kernel_rfl
theorem onea{p:Int}{u:Value}(h1:u.oneCell'=true)(h:v.oneCell'=true):∀ x∈[Value.int .i64 p,u,v],x.oneCell'=true:=by
 intro x hu;simp only[zzo,zzZ,or_false]at hu;rcases hu with rfl|rfl|rfl
 ·rfl
 ·exact h1
 ·exact h
variable {n:Nat}{xs:List Value}
theorem row_one{S:Nat->Prop}{e:TypeId}{size:Nat}(h:Row S w e size v n xs):v.oneCell'=true:=by
 rcases zan h with rfl|⟨g,cap,rfl⟩ <;> rfl
structure zuZ (w wr:World) (r tb eb:Nat) (T:List Th.Tok) (cv:Value) (ce:Th.Ex) (l:List (Nat × List Th.Tok)) (es:List Th.Ex) (s1:Th.St) (sv:Value):Prop where
 blk:Blk wr eb [cv,sv] 173
 lo:w.heap.size<=eb
 rs:RS wr r tb T s1
 gb:w.grownBy wr (some r)
 len:l.length=es.length
 subj:s1.bad=none->∃ n,Rep (fun b=>zat w b/\b<eb) wr n cv ce
 parts:∃ nvs bvs,nvs.length=l.length/\bvs.length=l.length/\wr.ownsRow (eb+1) 240 3 sv l.length (za7 l nvs bvs) /\
  (s1.bad=none->∃ n,(∀ (i:Nat) (a:Nat × List Th.Tok) (nv:Value),l[i]?=some a->nvs[i]?=some nv->Row (fun b=>eb<b/\some b≠sv.ownBlock) wr 88 2 nv a.2.length (zaj a.2)) /\
   (∀ (i:Nat) (bv:Value) (p:Th.Ex),bvs[i]?=some bv->es[i]?=some p->Rep (fun b=>eb<b/\some b≠sv.ownBlock) wr n bv p))
variable {w2 w3:World}{cv:Value}{ce:Th.Ex}{g cap:Nat}
theorem zuZ.add{l:List (Nat × List Th.Tok)}{nv:Value}{x:Nat × List Th.Tok}{nvs bvs:List Value}{o:Obj}(hB:zuZ w wr r tb eb T cv ce l es s1 sv)(aL:nvs.length=l.length)(aC:bvs.length=l.length)(fS:wr.ownsRow (eb+1) 240 3 sv l.length (za7 l nvs bvs))(mf:s1.bad=none->∃ n,(∀ (i:Nat) (a:Nat × List Th.Tok) (nv:Value),l[i]?=some a->nvs[i]?=some nv->Row (fun b=>eb<b/\some b≠sv.ownBlock) wr 88 2 nv a.2.length (zaj a.2)) /\
   (∀ (i:Nat) (bv:Value) (p:Th.Ex),bvs[i]?=some bv->es[i]?=some p->Rep (fun b=>eb<b/\some b≠sv.ownBlock) wr n bv p))(bd:r<w.heap.size)(cu:tb<w.heap.size)(ay:Row (zat wr.drew) w2 88 2 nv x.2.length (zaj x.2))(aq:Got (zat wr.drew) w2 v e s2)(aI:RS w2 r tb T s2)(aF:wr.drew.grownBy w2 (some r))(ai:w3.ownsRow (eb+1) 240 3 (.slice (some ⟨g,0,none⟩) (l.length+1) cap) (l.length+1) (za7 l nvs bvs++[.int .i64 x.1,nv,v]))(ah:(w2.alloc o).grownBy w3 sv.ownBlock)(aV:sv.ownBlock=some g\/g=w2.heap.size+1)(aQ:s2.bad=none->s1.bad=none):
  zuZ w (w3.setCell ⟨eb,1,none⟩ (.slice (some ⟨g,0,none⟩) (l.length+1) cap)) r tb eb T cv ce (l++[x]) (es++[e]) s2 (.slice (some ⟨g,0,none⟩) (l.length+1) cap):=by
 have fN:=hB.lo;have xw:=hB.blk.lt;have bF:wr.heap.size<=w2.heap.size:=aF.size;have cD:∀ b,sv.ownBlock=some b->eb<b/\b<wr.heap.size:=fun b hb=>⟨(fS.lt b hb).1,(fS.lt b hb).2⟩
 have aH:some eb≠sv.ownBlock:=fun e=>by have:=(cD eb e.symm).1;omega
 have nO:eb<g:=by
  rcases aV with h|h
  ·exact (cD g h).1
  ·omega
 have lz:some r≠sv.ownBlock:=fun e=>by have:=(cD r e.symm).1;omega
 have tw:some tb≠sv.ownBlock:=fun e=>by have:=(cD tb e.symm).1;omega
 have kQ:Blk w3 eb [cv,sv] 173:=((hB.blk.drew.grown aF (by simp;omega)).alloc o).grown ah aH;have key:∀ b,eb<b->some b≠sv.ownBlock->b<w2.heap.size->some b≠some g:=by
  intro b aA aw bD e;cases e;rcases aV with h|h
  ·exact aw h.symm
  ·omega
 have lN:∀ {ty:TypeId} {sz m:Nat} {u:Value} {ys:List Value},Row (fun b=>eb<b/\some b≠sv.ownBlock) wr ty sz u m ys ->
   Row (fun b=>eb<b/\some b≠some g) (w3.setCell ⟨eb,1,none⟩ (.slice (some ⟨g,0,none⟩) (l.length+1) cap)) ty sz u m ys:=by
  intro ty sz m u ys hr;have a1:=hr.gb (zbO wr none) (by simp);have a2:=a1.gb aF (fun k hk=>by cases hk;omega);have a3:Row (fun b=>eb<b/\some b≠sv.ownBlock/\b<w2.heap.size) w2 ty sz u m ys:=a2.mono (fun k hk h=>⟨h.1,h.2,hk⟩);have a4:=a3.gb (zag w2 o none) (by simp);have a5:=a4.gb ah (fun k hk h=>h.2.1 hk.symm);have a6:=a5.gb (zaT w3 eb 1 (.slice (some ⟨g,0,none⟩) (l.length+1) cap)) (fun k hk h=>by cases hk;omega);exact a6.mono (fun k _ h=>⟨h.1,key k h.1 h.2.1 h.2.2⟩)
 have lM:∀ {ty:TypeId} {sz m:Nat} {u:Value} {ys:List Value},Row (zat wr.drew) w2 ty sz u m ys ->
   Row (fun b=>eb<b/\some b≠some g) (w3.setCell ⟨eb,1,none⟩ (.slice (some ⟨g,0,none⟩) (l.length+1) cap)) ty sz u m ys:=by
  intro ty sz m u ys hr;have a3:Row (fun b=>wr.heap.size<=b/\b<w2.heap.size) w2 ty sz u m ys:=hr.mono (fun k hk h=>⟨h,hk⟩);have a4:=a3.gb (zag w2 o none) (by simp);have a5:=a4.gb ah (fun k hk h=>by have:=(cD k hk).2;omega);have a6:=a5.gb (zaT w3 eb 1 (.slice (some ⟨g,0,none⟩) (l.length+1) cap)) (fun k hk h=>by cases hk;omega);exact a6.mono (fun k _ h=>⟨by omega,key k (by omega) (fun e=>by have:=(cD k e.symm).2;omega) h.2⟩)
 refine ⟨?_,fN,?_,?_,by simp[hB.len],?_,nvs++[nv],bvs++[v],by simp[aL],by simp[aC],?_,?_⟩
 ·exact kQ.set 1 _
 ·exact ((aI.alloc o).gb ah lz tw).set eb 1 _ (by omega) (by omega)
 ·refine zap ?_ _ _ fN;have h1:w.grownBy (w2.alloc o) (some r):=zad (zad (zad hB.gb (zbO wr _)) aF) (zag w2 o _);exact ⟨ah.os.trans h1.os,ah.tape.trans h1.tape,ah.output.trans h1.output,zyR h1.size ah.size,
   fun k hk hr=>(ah.block k (zyS hk h1.size) (fun e=>by have:=(cD k e.symm).1;omega)).trans (h1.block k hk hr)⟩
 ·intro hb;obtain ⟨n,hn⟩:=hB.subj (aQ hb);exact ⟨n,((((hn.gb (zbO wr none) (by simp)).gb aF (fun k hk h=>by cases hk;simp only[zat]at h;omega)).gb (zag w2 o none) (by simp)).gb ah (fun k hk h=>by have:=(cD k hk).1;omega)).gb (zaT w3 eb 1 _) (fun k hk h=>by cases hk;omega)⟩
 ·rw[zgK l nvs bvs x nv v aL.symm aC.symm,zyT];exact ownsRow_setCell_below (a:=⟨eb,1,none⟩) ai (by simp) _
 ·intro hb;obtain ⟨n1,dd,cR⟩:=mf (aQ hb);obtain ⟨n2,eY⟩:=aq.rep hb;refine ⟨n1+n2,fun i a u ha hu=>?_,fun i pv p eD hp=>?_⟩
  ·rcases zbI ha with h1|⟨h1,rfl⟩
   ·rcases zbI hu with h2|⟨h2,rfl⟩
    ·exact lN (dd i a u h1 h2)
    ·rw[zzK (by omega)]at h1;simp at h1
   ·rcases zbI hu with h2|⟨h2,rfl⟩
    ·rw[zzK (by omega)]at h2;simp at h2
    ·exact lM ay
  ·rcases zbI eD with h1|⟨h1,rfl⟩
   ·rcases zbI hp with h2|⟨h2,rfl⟩
    ·exact Rep.imp (fun _ _ _ _ _ hR=>lN hR) _ _ _ ((cR i pv p h1 h2).le (zz0 n1 n2))
    ·rw[zzK (by rw[aC,hB.len];omega)]at h1;simp at h1
   ·rcases zbI hp with h2|⟨h2,rfl⟩
    ·rw[zzK (by rw[<-hB.len,<-aC];omega)]at h2;simp at h2
    ·exact Rep.imp (fun _ _ _ _ _ hR=>lM hR) _ _ _ (eY.le (zAc n2 n1))
theorem zuZ.step{l:List (Nat × List Th.Tok)}(hB:zuZ w wr r tb eb T cv ce l es s1 sv)(bd:r<w.heap.size)(hg:wr.grownBy w' (some r))(hs:RS w' r tb T s2)(hb:s2.bad=none->s1.bad=none):zuZ w w' r tb eb T cv ce l es s2 sv:=by
 have fN:=hB.lo;obtain ⟨nvs,bvs,h1,iB,h2,h3⟩:=hB.parts;refine ⟨hB.blk.grown hg (by simp;omega),fN,hs,zad hB.gb hg,hB.len,?_,nvs,bvs,h1,iB,h2.kept hg (zdi h2 (by omega)),fun aQ=>?_⟩
 ·intro aQ;obtain ⟨n,hn⟩:=hB.subj (hb aQ);exact ⟨n,hn.gb hg (fun k hk h=>by cases hk;simp only[zat]at h;omega)⟩
 ·obtain ⟨n,hr,hn⟩:=h3 (hb aQ);exact ⟨n,fun i a u x y=>(hr i a u x y).gb hg (fun k hk=>by cases hk;omega),fun i pv p a b=>(hn i pv p a b).gb hg (fun k hk=>by cases hk;omega)⟩
theorem zv4{l:List (Nat × List Th.Tok)}(hB:zuZ w wr r tb eb T cv ce l es s1 sv):
  Got (zat w) wr (.iface 173 (.agg #[cv,sv])) (Th.mkCase ce l es) s1:=by
 have fN:=hB.lo;obtain ⟨nvs,bvs,h1,iB,h2,h3⟩:=hB.parts;refine ⟨zb0 _ _,fun aQ=>?_⟩;obtain ⟨n1,hr,cR⟩:=h3 aQ;obtain ⟨n2,eY⟩:=hB.subj aQ;refine ⟨n1+n2+1,.inr (.inr (.inr (.inr (.inr (.inr (.inr ?_))))))⟩;refine ⟨rfl,cv,sv,ce,es,nvs,bvs,rfl,rfl,hB.len.symm,h1,iB,?_,?_,?_,?_⟩
 ·exact ⟨za0 h2 (zy5 _),fun b hb=>by have:=(h2.lt b hb).1;simp only[zat];omega⟩
 ·exact fun i a u x y=>(hr i a u x y).mono (fun k _ h=>by simp only[zat];omega)
 ·exact fun i pv p a b=>((cR i pv p a b).le (by omega)).mono (fun k _ h=>by simp only[zat];omega)
 ·exact (eY.le (by omega)).mono (fun k _ h=>h.1)
theorem zcM(st:Th.St):(Th.zax st).2.bad=none->st.bad=none:=by
 intro h;unfold Th.zax at h;split at h
 ·simp_all
 ·exact h
theorem zfz(hk:zbD ex){q:(Nat × List Th.Tok) × Th.Ex × Th.St}(h:Th.ztN ex c st=some q):q.2.2.bad=none->st.bad=none:=by
 unfold Th.ztN at h;simp only[zyQ,zyP]at h;obtain ⟨q1,h1,rfl⟩:=h;intro hb;exact zaC _ _ (zdX _ _ _ (zaC _ _ (zcM _ (zaC _ _ (hk _ _ _ h1 hb)))))
theorem zlo(h:Th.za8 c st=true):st.is [59]=true:=by
 unfold Th.za8 at h;cases hi:st.is [59]
 ·rw[hi]at h;simp at h
 ·rfl
theorem zsM(hx:zso ex)(hk:zbD ex)(uL:k<=1000000)(hq:Th.zjy ex k c st=some q)(h:RS w r tb T st):
  Calls prog 194 #[.pointer (some ⟨r,0,none⟩),.bool c] w fun en w'=>Reads w r tb T q.1 q.2 en w':=by
 have bd:=h.lt;have cu:=h.tlt;obtain ⟨i0,dt,bq,aP,bF⟩:=info_parts zxr;have HI:=zab dt;clear dt;have HZ:=zab (And.intro bq (And.intro aP bF));clear bq aP bF;unfold Th.zjy at hq;simp only[zyQ,zyP]at hq;obtain ⟨q0,sR,q1,cF,rfl⟩:=hq;have Cu:=zab sR;have oC:=zab cF;clear sR cF;cases k with
 |zero=>have:=oC.o;simp[Th.zeD]at this
 |succ k=>
  have hp:=oC.o;rw[Th.zeD]at hp;simp only[zyQ]at hp;obtain ⟨q3,mS,sS⟩:=hp;have qE:=zab mS;have vO:=zab sS;clear mS sS;go_enter func194,ntmps194
  go_wp2_with fail
  refine (hx _ _ _ _ _ _ _ Cu.o h).mono ?_;rintro e w1 ⟨cv,rfl,kX,aW,bw⟩;have hz:=bw.size;have ho:=kX.one;have dS:Hid (zuZ w (w1.alloc (.cells #[cv,.slice none 0 0] 173)) r tb w1.heap.size T cv q0.1 [] [] q0.2 (.slice none 0 0)):=
   zab ⟨Blk.new w1 [cv,.slice none 0 0] 173,hz,aW.alloc _,zad bw (zag w1 _ _),rfl,
    fun hb=>by obtain ⟨n,hn⟩:=kX.rep hb;exact ⟨n,(hn.mono (fun k hk h=>⟨h,hk⟩)).gb (zag w1 _ none) (by simp)⟩,[],[],rfl,rfl,World.ownsRow_nil _ _ _ _,fun _=>⟨0,fun i pv p hh _=>by simp at hh,fun i pv p hh _=>by simp at hh⟩⟩
  clear h aW bw kX;rcases ho.shape with rfl|⟨t1,x1,rfl⟩
  all_goals
   clear ho;go_wp2_with fail
   refine (zaX dS.o.rs ⟨#[111,102]⟩ (by simp)).mono ?_;rintro e w9 ⟨rfl,AN,Am⟩;have tZ:=zab (dS.o.step bd Am AN (zaC _ _));have nK:=zab (zdf tZ.o.blk 1 (v:=.slice none 0 0) rfl);have Gm:=nK.o.1;have Gn:=nK.o.2;have GJ:=tZ.o.blk.lt;have dn:=zab (fun (W:World) (hW:RS W r tb T (Th.want Th.sOf q0.2))=>zwN hx qE.o hW);clear AN Am;go_wp2_with fail
   go_cut [12] (fun _ wc=>∃ cv sv,One cv/\zuZ w wc r tb w1.heap.size T cv q0.1 [q3.1] [q3.2.1] q3.2.2 sv)
   case first=>
    go_region_law (first
     |(refine step_append_lies _ (by rfl) _ _ _ (by rfl) (w1.heap.size+1) 240 i0 _ 3 48 underlying171 HI.o HZ.o.1 HZ.o.2.1 HZ.o.2.2 rfl (by omega) (.slice none 0 0) 0 [] (by rfl) (World.ownsRow_nil _ _ _ _) ⟨w2.heap.size,0,none⟩ 1 1 [.int .i64 q3.1.1,nv,v] (by rfl) (by rfl) (World.news_of_block (cs:=#[.int .i64 q3.1.1,nv,v]) (t:=240) (fr:=(0,0)) (heap_alloc_new w2 _)) (onea iM bR) (by omega) (by unfold maxLen;omega) (by omega) (by simp;omega) (w2.heap.size+1) (by simp) ?_;intro g cap w3 ai ah aV aj;have h3:=zab ((H2.o.alloc _).gb ah (by simp[Value.ownBlock]));have uB:=h3.o.1;have zD:=h3.o.2)
     |(go_simp;go_wp2_with (go_at_call 250;refine (dn.o _ ?_).mono ?_;exact tZ.o.rs.drew;rintro e w2 ⟨nv,v,rfl,ay,aq,aI,aF⟩;have bR:=aq.one.one;have iM:=row_one ay;have j6:w1.heap.size<w2.heap.size:=(by have:=aF.size;simp at this;omega);have v7:=zab ay;have cj:=zab aq;have eS:=zab aI;have eK:=zab aF;have H2:=zab (nK.o.drew.gb aF (by simp;omega));have wL:=H2.o.1;have rq:=H2.o.2;clear aq aI ay)))
    all_goals
     go_wp2_with fail
     go_meet
     case rel=>
      exact ⟨_,_,⟨by first|exact .inl rfl|exact .inr ⟨_,_,rfl⟩⟩,tZ.o.add (nvs:=[]) (bvs:=[]) rfl rfl (World.ownsRow_nil _ _ _ _) (fun _=>⟨0,fun i pv p hh _=>by simp at hh,fun i pv p hh _=>by simp at hh⟩) bd cu v7.o cj.o eS.o eK.o ai ah aV (zfz hk qE.o)⟩
   case rest=>
    obtain ⟨Gc,Ba,ja,cU⟩:=hcut;have cB:=zab (And.intro ja cU);clear cU ja;go_wp2_with fail
    go_loopg [21] k (fun g _ wr=>∃ cv l es s1 sv,One cv/\zuZ w wr r tb w1.heap.size T cv q0.1 l es s1 sv/\l≠[]/\l.length+g<=k+1/\(if Th.za8 c s1=true then Th.zeD ex c g l es s1.adv else some (l,es,s1))=some q1)
    case atStart=>exact ⟨_,_,_,_,_,cB.o.1,cB.o.2,by simp,by simp;omega,vO.o⟩
    case round=>
     obtain ⟨cv,l,es,s1,sv,Az,hB,aH,mO,hp⟩:=hrel;have HB:=zab hB;have hs:=hB.rs;have HO:=zab Az;clear hB Az;cases h5:Th.za8 c s1
     ·rw[h5]at hp;simp only[zzw,if_false,zyP]at hp;subst hp;have H5:=zab h5;clear h5;go_wp2_with fail
      refine (zfX hs c).mono ?_;rintro e w4 ⟨rfl,xi⟩;rw[H5.o];have gB:=zab (HB.o.step bd (zaf _ xi) (hs.below xi) (fun hb=>hb));have d0:=gB.o.blk.cell 0;have d1:=gB.o.blk.cell 1;simp at d0 d1;have cE:=zab (zv4 gB.o);obtain ⟨nvs,bvs,-,-,af,-⟩:=gB.o.parts;have gV:=zan (Row.zaE af);clear hs xi af;rcases gV with rfl|⟨gs,iA,rfl⟩ <;> rcases HO.o.shape with rfl|⟨t2,x2,rfl⟩
      all_goals
       go_wp2_with fail
       go_ret
       exact ⟨_,rfl,cE.o,gB.o.rs,gB.o.gb⟩
     ·rw[h5]at hp;simp only[if_true]at hp;cases gk with
      |zero=>simp[Th.zeD]at hp
      |succ g0=>
       rw[Th.zeD]at hp;simp only[zyQ]at hp;obtain ⟨q5,sT,sU⟩:=hp;have qF:=zab sT;have vP:=zab sU;have H5:=zab h5;have Hw:Hid (Th.want [59] s1=s1.adv):=zab (by rw[Th.want,zlo h5];simp);have eP:=zab (fun (W:World) (hW:RS W r tb T s1.adv)=>zwN hx qF.o hW);clear h5 sT sU;go_wp2_with fail
       refine (zfX hs c).mono ?_;rintro e w8 ⟨rfl,xj⟩;rw[H5.o];have p8:=hs.below xj;have BC:=zab (HB.o.step bd (zaf _ xj) p8 (fun hb=>hb));clear hs xj;go_wp2_with fail
       refine (zaX p8 ⟨#[59]⟩ (by simp)).mono ?_;rintro e w4 ⟨rfl,bV,bM⟩;rw[show Th.want (ByteArray.mk #[59]).data.toList s1=s1.adv from Hw.o]at bV;have gB:=zab (BC.o.step bd bM bV (fun _=>zie (zlo H5.o)));obtain ⟨nvs,bvs,sO,sP,af,aR⟩:=gB.o.parts;have gV:=zan (Row.zaE af);rcases gV with rfl|⟨gs,iA,rfl⟩
       ·exfalso;rcases af.2 with ⟨-,h0⟩|⟨_,_,_,h0,_⟩
        ·exact aH (zzn.1 h0)
        ·cases h0
       ·have uK:=(af.lt gs rfl);have HR:=zab (And.intro (And.intro sO sP) (And.intro af aR));have oO:=zab (zdf gB.o.blk 1 (v:=.slice (some ⟨gs,0,none⟩) l.length iA) rfl);have DL:=oO.o.1;have DM:=oO.o.2;have xF:=gB.o.blk.lt;clear p8 bV bM sO sP af aR;go_wp2_with fail
        go_region_law (first
         |(refine step_append_lies _ (by rfl) _ _ _ (by rfl) (w1.heap.size+1) 240 i0 _ 3 48 underlying171 HI.o HZ.o.1 HZ.o.2.1 HZ.o.2.2 rfl (by omega) (.slice (some ⟨gs,0,none⟩) l.length iA) l.length (za7 l nvs bvs) (by rfl) (ly.alloc _) ⟨w5.heap.size,0,none⟩ 1 1 [.int .i64 q5.1.1,A6,v5] (by rfl) (by rfl) (World.news_of_block (cs:=#[.int .i64 q5.1.1,A6,v5]) (t:=240) (fr:=(0,0)) (heap_alloc_new w5 _)) (onea iM bR) (by omega) (by unfold maxLen;omega) (by omega) (by simp;omega) (w5.heap.size+1) (by simp) ?_;intro g cap w6 ai ah aV aj;have h6:=zab ((ou.o.alloc _).gb ah (by simp[Value.ownBlock];omega));have DQ:=h6.o.1;have DR:=h6.o.2)
         |(go_simp;go_wp2_with (go_at_call 250;refine (eP.o _ ?_).mono ?_;exact gB.o.rs.drew;rintro e w5 ⟨A6,v5,rfl,ay,aq,fC,cH⟩;have bR:=aq.one.one;have iM:=row_one ay;have x9:w1.heap.size<w5.heap.size:=(by have:=cH.size;simp at this;omega);have v7:=zab ay;have cj:=zab aq;have oF:=zab fC;have lS:=zab cH;have ou:=zab (oO.o.drew.gb cH (by simp;omega));have DO:=ou.o.1;have DP:=ou.o.2;have ly:=HR.o.2.1.drew.kept cH (zdi HR.o.2.1 (by omega));clear aq fC ay)))
        all_goals
         go_wp2_with fail
         go_roundg g0
         case measure=>omega
         case rel=>
          exact ⟨_,_,_,_,_,HO.o,gB.o.add HR.o.1.1 HR.o.1.2 HR.o.2.1 HR.o.2.2 bd cu v7.o cj.o oF.o lS.o ai ah aV (zfz hk qF.o),by simp,by simp;omega,vP.o⟩
theorem ztF(l:List Th.Tok):∀ u∈zaj l,u.oneCell'=true:=by
 intro u hu;simp only[zaj,List.mem_flatMap,zbP]at hu;obtain ⟨t,_,ht⟩:=hu;simp only[zzo,zzZ,or_false]at ht;rcases ht with rfl|rfl <;> rfl
theorem zkE(l:List Th.Tok):(zaj l).length=l.length*2:=by
 induction l with
 |nil=>rfl
 |cons t l ih=>
  rw[show zaj (t::l)=zbP t++zaj l from rfl,zyT,ih];simp only[zbP,zy8,zzm];omega
theorem ztE(h:RS w r tb T st):(Th.zax st).1.length<=100000:=by
 have:=ztW h;unfold Th.zax;split
 ·exact zyR (List.takeWhile_prefix _).length_le this
 ·simp
structure Lam (w wr:World) (r tb eb:Nat) (T:List Th.Tok) (l:List Th.Tok) (s1:Th.St) (sv:Value):Prop where
 blk:Blk wr eb [sv,.nilIface] 226
 lo:w.heap.size<=eb
 rs:RS wr r tb T s1
 gb:w.grownBy wr (some r)
 row:Row (fun b=>zat w b/\b≠eb) wr 88 2 sv l.length (zaj l)
theorem Lam.step(hB:Lam w wr r tb eb T l s1 sv)(bd:r<w.heap.size)(hg:wr.grownBy w' (some r))(hs:RS w' r tb T s2):Lam w w' r tb eb T l s2 sv:=by
 have fN:=hB.lo;exact ⟨hB.blk.grown hg (by simp;omega),fN,hs,zad hB.gb hg,hB.row.gb hg (fun k hk h=>by cases hk;simp only[zat]at h;omega)⟩
theorem zxG(hB:Lam w wr r tb eb T l s1 sv)(bd:r<w.heap.size)(hg:wr.grownBy w' (some r))(aq:Got (zat wr) w' v e s2):
  Got (zat w) (w'.setCell ⟨eb,1,none⟩ v) (.iface 226 (.agg #[sv,v])) (Th.mkFun l e) s2:=by
 have fN:=hB.lo;have xw:=hB.blk.lt;have hz:=hB.gb.size;refine ⟨zb0 _ _,fun aQ=>?_⟩;obtain ⟨n2,eY⟩:=aq.rep aQ;have cS:=zaT w' eb 1 v;refine ⟨n2+1,.inr (.inr (.inr (.inl ⟨rfl,sv,v,e,rfl,rfl,?_,?_⟩)))⟩
 ·exact ((hB.row.gb hg (fun k hk h=>by cases hk;simp only[zat]at h;omega)).gb cS (fun k hk h=>by cases hk;exact h.2 rfl)).mono (fun k _ h=>h.1)
 ·exact (eY.gb cS (fun k hk=>by cases hk;simp only[zat];omega)).mono (fun k _ h=>by simp only[zat]at *;omega)
variable {base:Nat}
theorem zqK{e:TypeId}{size:Nat}(h:w.ownsRow base e size v n xs)(hn:0<n):∃ g cap,v=.slice (some ⟨g,0,none⟩) n cap:=by
 rcases h.2 with ⟨_,h0⟩|⟨g,cap,cur,h,_⟩
 ·omega
 ·exact ⟨g,cap,h⟩
theorem zqD{w1 W0:World}{m:Nat}{x:Th.Tok}(hB:Blk W0 (w1.heap.size+1) [.slice (some ⟨w1.heap.size,0,none⟩) 1 1,.nilIface] 226)(hz:w.heap.size<=w1.heap.size)(bd:r<w.heap.size)(cu:tb<w.heap.size)(DU:w.grownBy W0 (some r))(aI:RS w2 r tb T s2)(aF:W0.drew.grownBy w2 (some r))(ai:w3.ownsRow w1.heap.size 88 2 (.slice (some ⟨g,0,none⟩) m cap) m (zaj (x::l)))(hm:m=(x::l).length)(ah:w2.grownBy w3 (some w1.heap.size))(aV:g=w1.heap.size\/g=w2.heap.size):
  Lam w (w3.setCell ⟨w1.heap.size+1,0,none⟩ (.slice (some ⟨g,0,none⟩) m cap)) r tb (w1.heap.size+1) T (x::l) s2 (.slice (some ⟨g,0,none⟩) m cap):=by
 have aj:=hB.lt;have bF:W0.heap.size<=w2.heap.size:=aF.size;have nO:g≠w1.heap.size+1:=by omega
 have cS:=zaT w3 (w1.heap.size+1) 0 (.slice (some ⟨g,0,none⟩) m cap);refine ⟨?_,by omega,?_,?_,?_,?_⟩
 ·exact ((hB.drew.grown aF (by simp;omega)).grown ah (by simp)).set 0 _
 ·exact (aI.gb ah (by simp;omega) (by simp;omega)).set _ _ _ (by omega) (by omega)
 ·refine zap ?_ _ _ (by simp;omega);have h1:=zad (zad DU (zbO W0 _)) aF;exact ⟨ah.os.trans h1.os,ah.tape.trans h1.tape,ah.output.trans h1.output,zyR h1.size ah.size,
   fun k hk hr=>(ah.block k (zyS hk h1.size) (by simp;omega)).trans (h1.block k hk hr)⟩
 ·rw[<-hm];exact za0 (ai.kept cS (by simp[Value.ownBlock];omega)) (zy5 _)
 ·intro k hk;simp only[Value.ownBlock,zyP]at hk;subst hk;have:=(ai.lt g rfl).1;simp only[zat];omega
theorem ztn(hx:zso ex)(hq:Th.ztO ex c st=some q)(h:RS w r tb T st):
  Calls prog 195 #[.pointer (some ⟨r,0,none⟩),.bool c] w fun en w'=>Reads w r tb T q.1 q.2 en w':=by
 have bd:=h.lt;have cu:=h.tlt;obtain ⟨i0,dt,bq,aP,bF⟩:=info_parts zqz;have HI:=zab dt;clear dt;have HZ:=zab (And.intro bq (And.intro aP bF));clear bq aP bF;unfold Th.ztO at hq;simp only[zyQ,zyP]at hq;obtain ⟨q1,cF,rfl⟩:=hq;generalize cX:Th.zaL st=xs at cF ⊢;generalize da:Th.zax xs.2=ln at cF ⊢;have oC:=zab cF;have C9:=zab cX;have kB:=zab da;clear cF cX da;go_enter func195,ntmps195
 go_wp2_with fail
 refine (zg4 h).mono ?_;rintro e w1 ⟨rfl,aW,bw⟩;rw[C9.o]at aW ⊢;have hz:=bw.size;have nX:=World.ownsRow_lit (base:=w1.heap.size) (e:=88) (size:=2) w1 #[.string ⟨xs.1.s.toArray⟩,.int .i64 xs.1.at_] 1 (zyN _) (by unfold maxLen;omega) rfl;have uW:=Blk.new (w1.alloc (.cells #[.string ⟨xs.1.s.toArray⟩,.int .i64 xs.1.at_] 88)) [.slice (some ⟨w1.heap.size,0,none⟩) 1 1,.nilIface] 226;rw[World.size_alloc]at uW;have B0:=zab uW;clear uW;have zi:=zab ((aW.alloc (.cells #[.string ⟨xs.1.s.toArray⟩,.int .i64 xs.1.at_] 88)).alloc (.cells #[.slice (some ⟨w1.heap.size,0,none⟩) 1 1,.nilIface] 226));have eQ:=zab (zad (zad bw (zag w1 (.cells #[.string ⟨xs.1.s.toArray⟩,.int .i64 xs.1.at_] 88) (some r))) (zag _ (.cells #[.slice (some ⟨w1.heap.size,0,none⟩) 1 1,.nilIface] 226) (some r)));have pI:=zab (nX.alloc (.cells #[.slice (some ⟨w1.heap.size,0,none⟩) 1 1,.nilIface] 226));have xy:=ztE aW;rw[kB.o]at xy;have dn:=zab (fun (W:World) (hW:RS W r tb T xs.2)=>zlH hW);clear h aW bw nX;have nK:Hid (zsr _ (w1.heap.size+1) 0 (.slice (some ⟨w1.heap.size,0,none⟩) 1 1)):=zab (zdf B0.o 0 (v:=.slice (some ⟨w1.heap.size,0,none⟩) 1 1) rfl);go_wp2_with fail
 go_cut [11] (fun _ wc=>∃ sv,Lam w wc r tb (w1.heap.size+1) T (xs.1::ln.1) ln.2 sv)
 case first=>
  by_cases hl:ln.1=[]
  ·have Hl:=zab hl;clear hl
   go_region_law (first
    |(go_simp;go_wp2_with (go_at_call 116;refine (dn.o _ ?_).mono ?_;exact zi.o.drew;rintro e w2 ⟨nv,rfl,ck,ez,aI,aF⟩;rw[kB.o]at ck aI;obtain rfl:=ck Hl.o;have j6:w1.heap.size+1<w2.heap.size:=(by have:=aF.size;simp at this;omega);have eS:=zab aI;have eK:=zab aF;have H2:=zab (nK.o.drew.gb aF (by simp;omega));have wL:=H2.o.1;have rq:=H2.o.2;clear aI ck ez)))
   all_goals
    go_wp2_with fail
    go_meet
    case rel=>
     have jc:w2.ownsRow w1.heap.size 88 2 (.slice (some ⟨w1.heap.size,0,none⟩) 1 1) 1 (zaj (xs.1::[])):=pI.o.drew.kept eK.o (zdi pI.o (by omega));have eW:=zqD B0.o hz bd cu eQ.o eS.o eK.o jc rfl (zcT w2 _) (.inl rfl);rw[<-Hl.o]at eW;exact ⟨_,eW⟩
  ·have aL:0<ln.1.length:=zzA.2 hl;have Hl:=zab hl;clear hl
   go_region_law (first
    |(refine step_append_lies _ (by rfl) _ _ _ (by rfl) w1.heap.size 88 i0 _ 2 24 underlying89 HI.o HZ.o.1 HZ.o.2.1 HZ.o.2.2 rfl (by omega) (.slice (some ⟨w1.heap.size,0,none⟩) 1 1) 1 (zbP xs.1) (by rfl) sX ⟨g2,0,none⟩ ln.1.length c2 (zaj ln.1) (by rfl) (zkE _) (ez.cells rfl) (ztF _) (by omega) (by unfold maxLen;omega) (by omega) (by omega) w2.heap.size rfl ?_;intro g cap w3 ai ah aV aj;have h3:=zab (H2.o.gb ah (by simp[Value.ownBlock]));have uB:=h3.o.1;have zD:=h3.o.2)
    |(go_simp;go_wp2_with (go_at_call 116;refine (dn.o _ ?_).mono ?_;exact zi.o.drew;rintro e w2 ⟨nv,rfl,ck,ez,aI,aF⟩;rw[kB.o]at ez aI;obtain ⟨g2,c2,rfl⟩:=zqK ez aL;have j6:w1.heap.size+1<w2.heap.size:=(by have:=aF.size;simp at this;omega);have eS:=zab aI;have eK:=zab aF;have H2:=zab (nK.o.drew.gb aF (by simp;omega));have wL:=H2.o.1;have rq:=H2.o.2;have sX:=pI.o.drew.kept aF (zdi pI.o (by omega));clear aI ck)))
   all_goals
    go_wp2_with fail
    go_meet
    case rel=>
     refine ⟨_,zqD B0.o hz bd cu eQ.o eS.o eK.o ai (by simp;omega) ah ?_⟩;rcases aV with h|h
     ·left;simpa [Value.ownBlock] using h.symm
     ·exact .inr h
 case rest=>
  obtain ⟨Ba,cU⟩:=hcut;have cB:=zab cU;have hs:=cU.rs;clear cU;go_wp2_with fail
  refine (zaX hs ⟨#[46]⟩ (by simp)).mono ?_;rintro e w5 ⟨rfl,fC,cH⟩;have kx:=zab (cB.o.step bd cH fC);clear hs cH;go_wp2_with fail
  refine (hx _ _ _ _ _ _ _ oC.o fC).mono ?_;rintro en w6 ⟨v,rfl,aq,jL,fk⟩;have lX:=kx.o.blk.grown fk (by simp;omega);have d0:=lX.cell 0;have d1:=lX.cell 1;have f1:=lX.frozen 1;simp at d0 d1;have cE:=zab (zxG kx.o bd fk aq);have kb:=zab (zap (zad kx.o.gb fk) ⟨w1.heap.size+1,1,none⟩ v (by simp;omega));have qL:=zab (jL.set (w1.heap.size+1) 1 v (by omega) (by omega));have ho:=aq.one;have gV:=zan kx.o.row;clear fC aq jL fk lX;rcases gV with rfl|⟨gs,iA,rfl⟩ <;> rcases ho.shape with rfl|⟨t1,x1,rfl⟩
  all_goals
   clear ho;go_wp2_with fail
   go_ret
   exact ⟨_,rfl,cE.o,qL.o,kb.o⟩
end Go.Proofs.YtgahgkddaljmkaaGreatDoor
namespace Go.Proofs.YtgahgkddaljmkaaGreatDoor
open Tryz
open Go.RowKit
theorem zbz(st:Th.St):st.adv.bad=none->st.bad=none:=fun h=>h
variable {st:Th.St}
theorem zhK(h:st.fail.bad=none):False:=zvv h
theorem ztC(st:Th.St):(Th.zdj st).2.bad=none->st.bad=none:=by
 intro h;exact zdX _ _ _ (zaC _ _ (zdX _ _ _ (zaC _ _ h)))
variable {ex:Th.Rd}{q:Th.Ex × Th.St}
theorem zfp(hk:zbD ex)(h:Th.zeU ex st=some q):q.2.bad=none->st.bad=none:=by
 unfold Th.zeU at h;intro hb;split at h
 ·cases h;exact hb
 ·split at h
  ·cases h;exact hb
  ·split at h
   ·cases h;exact zbz _ (ztC _ hb)
   ·split at h
    ·simp only[zyQ,zyP]at h;obtain ⟨r,h1,rfl⟩:=h;exact zbz _ (hk _ _ _ h1 (zaC _ _ hb))
    ·cases h;exact (zhK hb).elim
theorem zi7{ex:Th.Rd}(hk:zbD ex):∀ (k:Nat) (e:Th.Ex) (st:Th.St) (q:Th.Ex × Th.St),Th.zcV ex k e st=some q->q.2.bad=none->st.bad=none
 |0,_,_,_,h=>by simp[Th.zcV]at h
 |k+1,e,st,q,h=>by
  rw[Th.zcV]at h;split at h
  ·simp only[zyQ]at h;obtain ⟨r,h1,h2⟩:=h;exact fun hb=>zfp hk h1 (zi7 hk k _ _ _ h2 hb)
  ·cases h;exact fun hb=>hb
theorem zfq(hk:zbD ex)(k:Nat)(st:Th.St)(q:Th.Ex × Th.St)(h:Th.zhP ex k st=some q):q.2.bad=none->st.bad=none:=by
 unfold Th.zhP at h;simp only[zyQ]at h;obtain ⟨r,h1,h2⟩:=h;exact fun hb=>zfp hk h1 (zi7 hk k _ _ _ h2 hb)
theorem zjx{sub:Th.St->Option (Th.Ex × Th.St)}(hs:∀ st q,sub st=some q->q.2.bad=none->st.bad=none)(a b:List UInt8):∀ (k:Nat) (e:Th.Ex) (st:Th.St) (q:Th.Ex × Th.St),Th.zku sub a b k e st=some q->q.2.bad=none->st.bad=none
 |0,_,_,_,h=>by simp[Th.zku]at h
 |k+1,e,st,q,h=>by
  rw[Th.zku]at h;split at h
  ·simp only[zyQ]at h;obtain ⟨r,h1,h2⟩:=h;exact fun hb=>zbz _ (hs _ _ h1 (zjx hs a b k _ _ _ h2 hb))
  ·cases h;exact fun hb=>hb
theorem zc4(hk:zbD ex)(k:Nat)(st:Th.St)(q:Th.Ex × Th.St)(h:Th.zcG ex k st=some q):q.2.bad=none->st.bad=none:=by
 unfold Th.zcG at h;simp only[zyQ]at h;obtain ⟨r,h1,h2⟩:=h;exact fun hb=>zfq hk k _ _ h1 (zjx (zfq hk k) _ _ k _ _ _ h2 hb)
theorem ze2(hk:zbD ex)(k:Nat)(st:Th.St)(q:Th.Ex × Th.St)(h:Th.zu0 ex k st=some q):q.2.bad=none->st.bad=none:=by
 unfold Th.zu0 at h;simp only[zyQ]at h;obtain ⟨r,h1,h2⟩:=h;exact fun hb=>zc4 hk k _ _ h1 (zjx (zc4 hk k) _ _ k _ _ _ h2 hb)
theorem zsa(hk:zbD ex)(k:Nat)(st:Th.St)(q:Th.Ex × Th.St)(h:Th.zjD ex k st=some q):q.2.bad=none->st.bad=none:=by
 unfold Th.zjD at h;simp only[zyQ]at h;obtain ⟨r,h1,h2⟩:=h;split at h2
 ·simp only[zyQ,zyP]at h2;obtain ⟨s,h3,rfl⟩:=h2;exact fun hb=>ze2 hk k _ _ h1 (zbz _ (ze2 hk k _ _ h3 hb))
 ·cases h2;exact ze2 hk k _ _ h1
theorem zi4{ex:Th.Rd}(hk:zbD ex):∀ (k:Nat) (l:List Th.Tok) (es:List Th.Ex) (st:Th.St) (q:List Th.Tok × List Th.Ex × Th.St),Th.zcu ex k l es st=some q->q.2.2.bad=none->st.bad=none
 |0,_,_,_,_,h=>by simp[Th.zcu]at h
 |k+1,l,es,st,q,h=>by
  rw[Th.zcu]at h;simp only[zyQ]at h;obtain ⟨r,h1,h2⟩:=h;have h0:r.2.bad=none->st.bad=none:=fun hb=>zc2 _ (zaC _ _ (hk _ _ _ h1 hb))
  split at h2
  ·exact fun hb=>h0 (zbz _ (zi4 hk k _ _ _ _ h2 hb))
  ·cases h2;exact h0
theorem zfn{ex:Th.Rd}(hk:zbD ex)(c:Bool):∀ (k:Nat) (l:List (Nat × List Th.Tok)) (es:List Th.Ex) (st:Th.St) (q:List (Nat × List Th.Tok) × List Th.Ex × Th.St),Th.zeD ex c k l es st=some q->q.2.2.bad=none->st.bad=none
 |0,_,_,_,_,h=>by simp[Th.zeD]at h
 |k+1,l,es,st,q,h=>by
  rw[Th.zeD]at h;simp only[zyQ]at h;obtain ⟨r,h1,h2⟩:=h;split at h2
  ·exact fun hb=>zfz hk h1 (zbz _ (zfn hk c k _ _ _ _ h2 hb))
  ·cases h2;exact zfz hk h1
theorem zrc(hk:zbD ex)(k:Nat):zbD (Th.zg7 ex k):=by
 intro c st q h hb;unfold Th.zg7 at h;split at h
 ·unfold Th.ztQ at h;simp only[zyQ,zyP]at h;obtain ⟨r,h1,s,h2,rfl⟩:=h;have:=zi4 hk k _ _ _ _ h1 (zaC _ _ (hk _ _ _ h2 hb));split at this
  ·exact zbz _ (zbz _ this)
  ·exact zbz _ this
 ·split at h
  ·unfold Th.zjy at h;simp only[zyQ,zyP]at h;obtain ⟨r,h1,s,h2,rfl⟩:=h;exact zbz _ (hk _ _ _ h1 (zaC _ _ (zfn hk c k _ _ _ _ h2 hb)))
  ·split at h
   ·unfold Th.ztO at h;simp only[zyQ,zyP]at h;obtain ⟨r,h1,rfl⟩:=h;exact zbz _ (zc2 _ (zcM _ (zaC _ _ (hk _ _ _ h1 hb))))
   ·exact zsa hk k _ _ h hb
theorem zcz:∀ n,zbD (Th.zdJ n)
 |0=>fun _ _ _ h=>by simp[Th.zdJ]at h
 |n+1=>zrc (zcz n) n
variable {w w2:World}{r tb:Nat}{T:List Th.Tok}{e:Th.Ex}
theorem ziV{w1:World}{s:Th.St}{en:Ending}(hg:w.grownBy w1 (some r))(h:Reads w1 r tb T e s en w2):Reads w r tb T e s en w2:=by
 obtain ⟨v,h1,h2,h3,h4⟩:=h;exact ⟨v,h1,h2.mono (fun k _ hk=>zyR hg.size hk),h3,zad hg h4⟩
variable {k:Nat}
theorem zxa(hx:zso ex)(hk:zbD ex)(uL:k<=1000000):zso (Th.zg7 ex k):=by
 intro c st q w r tb T hq h;have bd:=h.lt;have HQ:=zab hq;clear hq;go_enter func118,ntmps118
 go_wp2_with fail
 refine (zbG h ⟨#[108,101,116]⟩ (by simp)).mono ?_;rintro e w1 ⟨rfl,aW,bw⟩;have lW:=zab bw;clear bw h;cases h1:st.is Th.zqP
 ·rw[show st.is (ByteArray.mk #[108,101,116]).data.toList=false from h1]at aW ⊢;have lA:RS w1 r tb T st:=by simpa using aW
  have H1:=zab h1;clear h1 aW;go_wp2_with fail
  refine (zbG lA ⟨#[99,97,115,101]⟩ (by simp)).mono ?_;rintro e w2 ⟨rfl,aI,aF⟩;have ix:=zab (zad lW.o aF);clear aF lA;cases h2:st.is Th.zjO
  ·rw[show st.is (ByteArray.mk #[99,97,115,101]).data.toList=false from h2]at aI ⊢;have lB:RS w2 r tb T st:=by simpa using aI
   have H2:=zab h2;clear h2 aI;go_wp2_with fail
   refine (zbG lB ⟨#[92]⟩ (by simp)).mono ?_;rintro e w3 ⟨rfl,bP,aS⟩;have ej:=zab (zad ix.o aS);clear aS lB;cases h3:st.is [92]
   ·rw[show st.is (ByteArray.mk #[92]).data.toList=false from h3]at bP;have lC:RS w3 r tb T st:=by simpa using bP
    have mS:Hid (Th.zjD ex k st=some q):=zab (by have e:=HQ.o;rw[Th.zg7,H1.o,H2.o,h3]at e;simpa using e);clear h3 bP;go_wp2_with fail
    refine (zxW hx k _ _ _ _ _ _ mS.o lC).mono ?_;rintro en w4 hr;obtain ⟨v,rfl,cg⟩:=ziV ej.o hr;have hc:=cg.1.one.cells;have HR:=zab cg;clear hr cg lC;go_wp2_with fail
    go_ret
    exact ⟨v,rfl,HR.o⟩
   ·rw[show st.is (ByteArray.mk #[92]).data.toList=true from h3]at bP;have lC:RS w3 r tb T st.adv:=by simpa using bP
    have mS:Hid (Th.ztO ex c st.adv=some q):=zab (by have e:=HQ.o;rw[Th.zg7,H1.o,H2.o,h3]at e;simpa using e);clear h3 bP;go_wp2_with fail
    refine (ztn hx mS.o lC).mono ?_;rintro en w4 hr;obtain ⟨v,rfl,cg⟩:=ziV ej.o hr;have hc:=cg.1.one.cells;have HR:=zab cg;clear hr cg lC;go_wp2_with fail
    go_ret
    exact ⟨v,rfl,HR.o⟩
  ·rw[show st.is (ByteArray.mk #[99,97,115,101]).data.toList=true from h2]at aI ⊢;have lB:RS w2 r tb T st.adv:=by simpa using aI
   have bC:Hid (Th.zjy ex k c st.adv=some q):=zab (by have e:=HQ.o;rw[Th.zg7,H1.o,h2]at e;simpa using e);clear h2 aI;go_wp2_with fail
   refine (zsM hx hk uL bC.o lB).mono ?_;rintro en w4 hr;obtain ⟨v,rfl,cg⟩:=ziV ix.o hr;have hc:=cg.1.one.cells;have HR:=zab cg;clear hr cg lB;go_wp2_with fail
   go_ret
   exact ⟨v,rfl,HR.o⟩
 ·rw[show st.is (ByteArray.mk #[108,101,116]).data.toList=true from h1]at aW ⊢;have lA:RS w1 r tb T st.adv:=by simpa using aW
  have cF:Hid (Th.ztQ ex k c st.adv=some q):=zab (by have e:=HQ.o;rw[Th.zg7,h1]at e;simpa using e);clear h1 aW;go_wp2_with fail
  refine (zyn hx hk uL cF.o lA).mono ?_;rintro en w4 hr;obtain ⟨v,rfl,cg⟩:=ziV lW.o hr;have hc:=cg.1.one.cells;have HR:=zab cg;clear hr cg lA;go_wp2_with fail
  go_ret
  exact ⟨v,rfl,HR.o⟩
theorem zs0:∀ (n:Nat),n<=1000000->zso (Th.zdJ n)
 |0,_=>fun _ _ _ _ _ _ _ h=>by simp[Th.zdJ]at h
 |n+1,hn=>zxa (zs0 n (by omega)) (zcz n) (by omega)
theorem znU:(prog.info? 93).map (fun i=>(i.zero,i.size,i.bytes))=some (some (.agg #[.string ⟨#[]⟩,.int .i64 0,.slice none 0 0,.nilIface]),4,64):=by kernel_rfl
def zaR:List Th.zbr->List Value->List Value->List Value
 |x::l,n::ns,v::vs=>[.string ⟨x.name.s.toArray⟩,.int .i64 x.name.at_,n,v]++zaR l ns vs
 |_,_,_=>[]
theorem zga:∀ (l:List Th.zbr) (ns vs:List Value) (a:Th.zbr) (n v:Value),l.length=ns.length->l.length=vs.length->zaR (l++[a]) (ns++[n]) (vs++[v])=zaR l ns vs++[.string ⟨a.name.s.toArray⟩,.int .i64 a.name.at_,n,v]
 |[],[],[],_,_,_,_,_=>rfl
 |x::l,y::ns,z::vs,a,n,v,h1,h2=>by
  simp only[zy7,zaR];rw[zga l ns vs a n v (by simpa using h1) (by simpa using h2)];simp
 |[],_::_,_,_,_,_,h,_=>by simp at h
 |[],[],_::_,_,_,_,_,h=>by simp at h
 |_::_,[],_,_,_,_,h,_=>by simp at h
 |_::_,_::_,[],_,_,_,_,h=>by simp at h
variable {v:Value}
theorem onel{s:ByteArray}{p:Int}{u:Value}(h1:u.oneCell'=true)(h:v.oneCell'=true):∀ x∈[Value.string s,.int .i64 p,u,v],x.oneCell'=true:=by
 intro x hu;simp only[zzo,zzZ,or_false]at hu;rcases hu with rfl|rfl|rfl|rfl
 ·rfl
 ·rfl
 ·exact h1
 ·exact h
def zdv (S:Nat->Prop) (w:World) (n:Nat) (l:List Th.zbr) (nvs bvs:List Value):Prop:=
 ∀ (i:Nat) (x:Th.zbr) (nv bv:Value),l[i]?=some x->nvs[i]?=some nv->bvs[i]?=some bv->Row S w 88 2 nv x.params.length (zaj x.params)/\Rep S w n bv x.e
structure zl1 (w wr:World) (r tb:Nat) (T:List Th.Tok) (l:List Th.zbr) (s1:Th.St) (sv:Value):Prop where
 rs:RS wr r tb T s1
 gb:w.grownBy wr (some r)
 parts:∃ nvs bvs,nvs.length=l.length/\bvs.length=l.length/\wr.ownsRow w.heap.size 93 4 sv l.length (zaR l nvs bvs) /\
  (s1.bad=none->∃ n,zdv (fun b=>zat w b/\some b≠sv.ownBlock) wr n l nvs bvs)
variable {wr w3:World}{s1 s2:Th.St}{sv:Value}{g cap:Nat}
theorem zl1.add{l:List Th.zbr}{nv:Value}{x:Th.zbr}{nvs bvs:List Value}{o:Obj}(hB:zl1 w wr r tb T l s1 sv)(aL:nvs.length=l.length)(aC:bvs.length=l.length)(fS:wr.ownsRow w.heap.size 93 4 sv l.length (zaR l nvs bvs))(mf:s1.bad=none->∃ n,zdv (fun b=>zat w b/\some b≠sv.ownBlock) wr n l nvs bvs)(bd:r<w.heap.size)(cu:tb<w.heap.size)(ay:Row (zat wr) w2 88 2 nv x.params.length (zaj x.params))(aq:Got (zat wr) w2 v x.e s2)(aI:RS w2 r tb T s2)(aF:wr.grownBy w2 (some r))(ai:w3.ownsRow w.heap.size 93 4 (.slice (some ⟨g,0,none⟩) (l.length+1) cap) (l.length+1) (zaR l nvs bvs++[.string ⟨x.name.s.toArray⟩,.int .i64 x.name.at_,nv,v]))(ah:(w2.alloc o).grownBy w3 sv.ownBlock)(aV:sv.ownBlock=some g\/g=w2.heap.size+1)(aQ:s2.bad=none->s1.bad=none):
  zl1 w w3 r tb T (l++[x]) s2 (.slice (some ⟨g,0,none⟩) (l.length+1) cap):=by
 have bF:wr.heap.size<=w2.heap.size:=aF.size;have aP:=hB.gb.size;have cD:∀ b,sv.ownBlock=some b->w.heap.size<=b/\b<wr.heap.size:=fun b hb=>⟨(fS.lt b hb).1,(fS.lt b hb).2⟩
 have lz:some r≠sv.ownBlock:=fun e=>by have:=(cD r e.symm).1;omega
 have tw:some tb≠sv.ownBlock:=fun e=>by have:=(cD tb e.symm).1;omega
 have key:∀ b,some b≠sv.ownBlock->b<w2.heap.size->some b≠some g:=by
  intro b aw bD e;cases e;rcases aV with h|h
  ·exact aw h.symm
  ·omega
 have lN:∀ {ty:TypeId} {sz m:Nat} {u:Value} {ys:List Value},Row (fun b=>zat w b/\some b≠sv.ownBlock) wr ty sz u m ys ->
   Row (fun b=>zat w b/\some b≠some g) w3 ty sz u m ys:=by
  intro ty sz m u ys hr;have a2:=hr.gb aF (fun k hk h=>by cases hk;simp only[zat]at h;omega);have a3:Row (fun b=>zat w b/\some b≠sv.ownBlock/\b<w2.heap.size) w2 ty sz u m ys:=a2.mono (fun k hk h=>⟨h.1,h.2,hk⟩);have a4:=a3.gb (zag w2 o none) (by simp);have a5:=a4.gb ah (fun k hk h=>h.2.1 hk.symm);exact a5.mono (fun k _ h=>⟨h.1,key k h.2.1 h.2.2⟩)
 have lM:∀ {ty:TypeId} {sz m:Nat} {u:Value} {ys:List Value},Row (zat wr) w2 ty sz u m ys ->
   Row (fun b=>zat w b/\some b≠some g) w3 ty sz u m ys:=by
  intro ty sz m u ys hr;have a3:Row (fun b=>wr.heap.size<=b/\b<w2.heap.size) w2 ty sz u m ys:=hr.mono (fun k hk h=>⟨h,hk⟩);have a4:=a3.gb (zag w2 o none) (by simp);have a5:=a4.gb ah (fun k hk h=>by have:=(cD k hk).2;omega);exact a5.mono (fun k _ h=>⟨by simp only[zat];omega,key k (fun e=>by have:=(cD k e.symm).2;omega) h.2⟩)
 refine ⟨(aI.alloc o).gb ah lz tw,?_,nvs++[nv],bvs++[v],by simp[aL],by simp[aC],?_,?_⟩
 ·have h1:w.grownBy (w2.alloc o) (some r):=zad (zad hB.gb aF) (zag w2 o _);exact ⟨ah.os.trans h1.os,ah.tape.trans h1.tape,ah.output.trans h1.output,zyR h1.size ah.size,
   fun k hk hr=>(ah.block k (zyS hk h1.size) (fun e=>by have:=(cD k e.symm).1;omega)).trans (h1.block k hk hr)⟩
 ·rw[zga l nvs bvs x nv v aL.symm aC.symm,zyT];exact ai
 ·intro hb;obtain ⟨n1,cR⟩:=mf (aQ hb);obtain ⟨n2,eY⟩:=aq.rep hb;refine ⟨n1+n2,fun i a u p ha hu hp=>?_⟩;rcases zbI ha with h1|⟨h1,rfl⟩
  ·have hi:i<l.length:=(zyL.1 h1).1;rcases zbI hu with h2|⟨h2,rfl⟩
   ·rcases zbI hp with h3|⟨h3,rfl⟩
    ·exact ⟨lN (cR i a u p h1 h2 h3).1,Rep.imp (fun _ _ _ _ _ hR=>lN hR) _ _ _ ((cR i a u p h1 h2 h3).2.le (zz0 n1 n2))⟩
    ·omega
   ·omega
  ·rcases zbI hu with h2|⟨h2,rfl⟩
   ·rw[zzK (by omega)]at h2;simp at h2
   ·rcases zbI hp with h3|⟨h3,rfl⟩
    ·rw[zzK (by omega)]at h3;simp at h3
    ·exact ⟨lM ay,Rep.imp (fun _ _ _ _ _ hR=>lM hR) _ _ _ (eY.le (zAc n2 n1))⟩
variable {w':World}
theorem zl1.step{l:List Th.zbr}(hB:zl1 w wr r tb T l s1 sv)(bd:r<w.heap.size)(hg:wr.grownBy w' (some r))(hs:RS w' r tb T s2)(hb:s2.bad=none->s1.bad=none):zl1 w w' r tb T l s2 sv:=by
 obtain ⟨nvs,bvs,h1,iB,h2,h3⟩:=hB.parts;refine ⟨hs,zad hB.gb hg,nvs,bvs,h1,iB,h2.kept hg (zdi h2 bd),fun aQ=>?_⟩;obtain ⟨n,hn⟩:=h3 (hb aQ);exact ⟨n,fun i a u p x y z=>⟨(hn i a u p x y z).1.gb hg (fun k hk h=>by cases hk;simp only[zat]at h;omega),(hn i a u p x y z).2.gb hg (fun k hk h=>by cases hk;simp only[zat]at h;omega)⟩⟩
end Go.Proofs.YtgahgkddaljmkaaGreatDoor
namespace Go.Proofs.YtgahgkddaljmkaaGreatDoor
open Tryz
open Go.RowKit
attribute [local go_sem] zcZ zc0 zc1
def zb6 (t:Th.Tok):List Value:=[.int .i64 t.k,.string ⟨t.s.toArray⟩,.int .i64 t.at_]
def za2 (l:List Th.Tok):List Value:=l.flatMap zb6
theorem zht:∀ (l:List Th.Tok) (i:Nat) (t:Th.Tok),l[i]?=some t->(za2 l)[i*3]?=some (.int .i64 t.k)/\(za2 l)[i*3+1]?=some (.string ⟨t.s.toArray⟩)/\(za2 l)[i*3+2]?=some (.int .i64 t.at_)
 |[],i,t,h=>by simp at h
 |x::l,0,t,h=>by
  simp only[zzl,zyP]at h;subst h;exact ⟨rfl,rfl,rfl⟩
 |x::l,i+1,t,h=>by
  have ih:=zht l i t (by simpa using h);have e:∀ c,(za2 (x::l))[(i+1)*3+c]?=(za2 l)[i*3+c]?:=by
   intro c;rw[show za2 (x::l)=zb6 x++za2 l from rfl,zy3 (by simp[zb6];omega)];congr 1;simp[zb6];omega
  refine ⟨?_,?_,?_⟩
  ·have:=e 0;simp only[zzO]at this;rw[this];exact ih.1
  ·rw[e 1];exact ih.2.1
  ·rw[e 2];exact ih.2.2
def zay (s:ByteArray):List Th.Tok:=Th.zdN (s.size+1) s.data.toList 0
def znl:Prop:=∀ (s:ByteArray) (w:World),s.size<=600 ->
 Calls prog 66 #[.string s] w fun e w'=>∃ v,e=.returned v/\w'.ownsRow w.heap.size 135 3 v (zay s).length (za2 (zay s))/\Below w.heap.size w w'
variable {w:World}{r tb:Nat}{T:List Th.Tok}{st:Th.St}
theorem RS.failed(h:RS w r tb T st):w.cell? ⟨r,2,none⟩=some (.bool st.bad.isSome)/\(∀ p,st.bad=some p->w.cell? ⟨r,3,none⟩=some (.int .i64 p)):=by
 obtain ⟨cap,n,f,p,h,rfl⟩:=h;have h2:=h.blk.cell 2;have h3:=h.blk.cell 3;simp at h2 h3;cases f with
 |false=>exact ⟨h2,fun p hp=>by simp[zby]at hp⟩
 |true=>exact ⟨h2,fun p hp=>by simp[zby]at hp;rw[h3,hp]⟩
def ziZ (S:Nat->Prop) (w:World) (pv:Value) (l:List Th.zbr):Prop:=
 ∃ nvs bvs n,nvs.length=l.length/\bvs.length=l.length/\Row S w 93 4 pv l.length (zaR l nvs bvs)/\zdv S w n l nvs bvs
variable {ex:Th.Rd}
theorem zrC(hk:zbD ex){q:Th.zbr × Th.St}(h:Th.zmE ex st=some q):q.2.bad=none->st.bad=none:=by
 unfold Th.zmE at h;simp only[zyQ,zyP]at h;obtain ⟨r,h1,rfl⟩:=h;exact fun hb=>zc2 _ (zcM _ (zaC _ _ (hk _ _ _ h1 (zaC _ _ hb))))
def zu3 (w:World) (q:List Th.zbr × Th.St) (e:Ending) (w':World):Prop:=
 Below w.heap.size w w'/\((∃ p,q.2.bad=some p/\e=.returned (.tuple #[.slice none 0 0,.int .i64 p,.bool false])) \/
   (q.2.bad=none/\∃ pv,e=.returned (.tuple #[pv,.int .i64 0,.bool true])/\ziZ (zat w) w' pv q.1))
variable {wr:World}{s1:Th.St}{sv:Value}
theorem zf0{l:List Th.zbr}{B:Nat}(h:zl1 w wr r tb T l s1 sv)(hB:B<=r)(hr:r<w.heap.size):Below B w wr:=
 ⟨h.gb.os,h.gb.tape,h.gb.output,h.gb.size,fun k hk=>h.gb.block k (by omega) (by simp;omega)⟩
theorem zpJ(hC:znl)(s:ByteArray)(w:World)(hs:s.size<=600)(gJ:Good (zay s))(aH:zay s≠[])(n k:Nat)(hn:n<=1000000)(hk:k<=1000000)(q:List Th.zbr × Th.St)(hq:Th.zcn (Th.zdJ n) k [] ⟨zay s,none⟩=some q):
  Calls prog 41 #[.string s] w fun e w'=>zu3 w q e w':=by
 obtain ⟨i0,dt,bq,aP,bF⟩:=info_parts znU;have HI:=zab dt;clear dt;have HZ:=zab (And.intro bq (And.intro aP bF));clear bq aP bF;have HQ:=zab hq;have HX:=zab (zs0 n hn);have HG:=zab gJ;generalize hT:zay s=T at *;have HT:=zab hT;clear hT hq gJ;go_enter func41,ntmps41
 go_wp2_with fail
 refine (hC s _ hs).mono ?_;rintro e w1 ⟨v,rfl,af,aA⟩;rw[HT.o]at af;obtain ⟨tb,cap,rfl⟩:=zqK af (zzA.2 aH);have tj:=(af.lt tb rfl);have zW:RI (w1.alloc (.cells #[.slice (some ⟨tb,0,none⟩) T.length cap,.int .i64 0,.bool false,.int .i64 0] 132)) w1.heap.size tb cap T 0 false 0:=by
  refine ⟨Blk.new w1 [.slice (some ⟨tb,0,none⟩) T.length cap,.int .i64 0,.bool false,.int .i64 0] 132,?_,by omega,zzA.2 aH,HG.o,by simp,?_⟩
  ·intro i t ht;have aj:i<T.length:=(zyL.1 ht).1;have hc:=zht T i t ht;have ez:=af.alloc (.cells #[.slice (some ⟨tb,0,none⟩) T.length cap,.int .i64 0,.bool false,.int .i64 0] 132);refine ⟨?_,?_,?_⟩
   ·rw[ez.cellAt _ (by omega)];exact hc.1
   ·rw[ez.cellAt _ (by omega)];exact hc.2.1
   ·rw[ez.cellAt _ (by omega)];exact hc.2.2
  ·rcases af.2 with ⟨h,_⟩|⟨g,c,cur,h,_,_,hle,_⟩
   ·cases h
   ·cases h;exact hle
 have zT:zl1 (w1.alloc (.cells #[.slice (some ⟨tb,0,none⟩) T.length cap,.int .i64 0,.bool false,.int .i64 0] 132)) (w1.alloc (.cells #[.slice (some ⟨tb,0,none⟩) T.length cap,.int .i64 0,.bool false,.int .i64 0] 132)) w1.heap.size tb T [] ⟨T,none⟩ (.slice none 0 0):=
  ⟨⟨cap,0,false,0,zW,by simp[zby]⟩,zcT _ _,[],[],rfl,rfl,World.ownsRow_nil _ _ _ _,fun _=>⟨0,fun i x nv bv hh _ _=>by simp at hh⟩⟩
 have kB:=zab zT;have aP:=aA.size;have cB:=zab ((aA.trans ((zam w1 _).mono aP)):Below w.heap.size w (w1.alloc (.cells #[.slice (some ⟨tb,0,none⟩) T.length cap,.int .i64 0,.bool false,.int .i64 0] 132)));clear zW zT af aA;go_wp2_with fail
 generalize rL:w1.alloc (.cells #[.slice (some ⟨tb,0,none⟩) T.length cap,.int .i64 0,.bool false,.int .i64 0] 132)=W0 at *;have mI:w1.heap.size<W0.heap.size:=by rw[<-rL];simp
 clear rL
 go_loopg [2] k (fun g sv wr=>∃ l s1,zl1 W0 wr w1.heap.size tb T l s1 sv/\l.length+g<=k/\Th.zcn (Th.zdJ n) g l s1=some q)
 case atStart=>exact ⟨[],_,kB.o,by simp,HQ.o⟩
 case round=>
  obtain ⟨l,s1,hL,mO,hp⟩:=hrel;have HL:=zab hL;have aW:=hL.rs;have hf:=aW.failed;have aL:=aW.lt;clear hL;cases gk with
  |zero=>simp[Th.zcn]at hp
  |succ gg=>
   rw[Th.zcn]at hp;cases dq:s1.bad with
   |some p=>
    rw[dq]at hp hf;simp only[Option.isNone_some,Bool.false_and,zzw,if_false,zyP]at hp;subst hp;have c2:=hf.1;have c3:=hf.2 p rfl;simp at c2;have qJ:=zab dq;clear hf dq aW;go_wp2_with fail
    go_quiet (fail)
    go_wp2_with fail
    go_ret3
    exact ⟨below_drewN (cB.o.trans (zf0 HL.o aP mI)) _,.inl ⟨p,qJ.o,rfl⟩⟩
   |none=>
    rw[dq]at hp hf;obtain ⟨t,tk,ti,th,tm,tc⟩:=zhs aW;have jd:=th dq;have c2:=hf.1;simp at c2;have qJ:=zab dq;have gF:=zab aW;clear hf dq tk ti th tm aW;cases dF:(t.k == 0)
    ·have cK:((t.k:Int) == 0)=false:=by simp at dF ⊢;omega
     have aG:((t.k:Int) != 0)=true:=by simp at dF ⊢;omega
     rw[jd]at hp;have e0:(t.k != 0)=true:=by simpa using dF
     simp only[Option.isNone_none,Bool.true_and,e0,if_true,zyQ]at hp;obtain ⟨q2,bC,fB⟩:=hp;have oD:=zab bC;have Cs:=zab fB;clear dF e0 jd bC fB;go_wp2_with fail
     refine tc.mono ?_;rintro e w2 ⟨rfl,aw⟩;have kC:=zab (HL.o.step mI (zaf _ aw) (gF.o.below aw) (fun hb=>hb));clear tc aw c2;go_wp2_with fail
     refine (zpu HX.o oD.o kC.o.rs).mono ?_;rintro e w3 ⟨nv,bv,rfl,ay,aq,bP,aS⟩;obtain ⟨nvs,bvs,aL,aC,fS,mf⟩:=kC.o.parts;have bR:=aq.one.one;have iM:=row_one ay;have x5:=(fS.kept aS (zdi fS mI)).alloc (.cells #[.string ⟨q2.1.name.s.toArray⟩,.int .i64 q2.1.name.at_,nv,bv] 93);have ym:W0.heap.size<=w3.heap.size:=zyR kC.o.gb.size aS.size;have H3:=zab (And.intro ay (And.intro aq (And.intro bP aS)));have HP:=zab (And.intro aL (And.intro aC (And.intro fS mf)));have gV:=zan ay;have mV:=aq.one.shape;clear ay aq bP aS aL aC fS mf;go_wp2_with (at_builtin;refine wpList_append_lies _ rfl _ _ _ rfl W0.heap.size 93 i0 _ 4 64 underlying60 HI.o HZ.o.1 HZ.o.2.1 HZ.o.2.2 rfl (by omega) _ l.length (zaR l nvs bvs) rfl x5 ⟨w3.heap.size,0,none⟩ 1 1 [.string ⟨q2.1.name.s.toArray⟩,.int .i64 q2.1.name.at_,nv,bv] rfl rfl (World.news_of_block (cs:=#[.string ⟨q2.1.name.s.toArray⟩,.int .i64 q2.1.name.at_,nv,bv]) (t:=93) (fr:=(0,0)) (heap_alloc_new w3 _)) (onel iM bR) (by omega) (by unfold maxLen;omega) (by omega) (by simp;omega) (w3.heap.size+1) (by simp) ?_;intro g cap w4 ai ah aV aj)
     go_roundg gg
     case measure=>omega
     case rel=>
      exact ⟨l++[q2.1],q2.2,kC.o.add HP.o.1 HP.o.2.1 HP.o.2.2.1 HP.o.2.2.2 mI (by omega) H3.o.1 H3.o.2.1 H3.o.2.2.1 H3.o.2.2.2 ai ah aV (zrC (zcz n) oD.o),by simp;omega,Cs.o⟩
    ·have cK:((t.k:Int) == 0)=true:=by simp at dF ⊢;omega
     have aG:((t.k:Int) != 0)=false:=by simp at dF ⊢;omega
     rw[jd]at hp;have e0:(t.k != 0)=false:=by simpa using dF
     simp only[Option.isNone_none,Bool.true_and,e0,zzw,if_false,zyP]at hp;subst hp;clear dF e0 jd;go_wp2_with fail
     refine tc.mono ?_;rintro e w2 ⟨rfl,aw⟩;have kC:=zab (HL.o.step mI (zaf _ aw) (gF.o.below aw) (fun hb=>hb));have zs:=kC.o.rs.failed.1;rw[qJ.o]at zs;simp at zs;clear tc aw c2;go_wp2_with fail
     go_ret3
     refine ⟨cB.o.trans (zf0 kC.o aP mI),.inr ⟨qJ.o,u2,rfl,?_⟩⟩;obtain ⟨nvs,bvs,aL,aC,fS,mf⟩:=kC.o.parts;obtain ⟨m,hm⟩:=mf qJ.o;have kk:w.heap.size<=W0.heap.size:=by omega
     refine ⟨nvs,bvs,m,aL,aC,(Row.zaE fS).mono (fun k _ hk=>zyR kk hk),fun i x nv bv a b c=>?_⟩;have:=hm i x nv bv a b c;exact ⟨this.1.mono (fun k _ hk=>zyR kk hk.1),this.2.mono (fun k _ hk=>zyR kk hk.1)⟩
end Go.Proofs.YtgahgkddaljmkaaGreatDoor
namespace Go.Proofs.YtgahgkddaljmkaaGreatDoor
open Tryz
open Go.RowKit Go.Shelf
attribute [local go_sem] Oper.semAt_some
theorem zwG{t:List UInt8}(h:t≠[]):1<=(Th.word t).2.length:=by
 have:0<t.length:=zzA.2 h;unfold Th.word;split <;> exact this
theorem zw0{q:UInt8->Bool}{c:UInt8}{r:List UInt8}(h:q c=true):(c::r).takeWhile q≠[]:=by simp[h]
theorem zeO(t:List UInt8)(h:2<=(Th.first t).1):1<=(Th.first t).2.length:=by
 cases t with
 |nil=>simp[Th.first]at h
 |cons c r=>
  simp only[Th.first]at h ⊢;split
  ·next hc=>exact zwG (zw0 (by simp[Th.zlx,hc]))
  ·split
   ·next hc hd=>
    rw[if_neg hc,if_pos hd]at h;have hp:=zw0 (q:=Th.zba) (r:=r) hd;have:0<((c::r).takeWhile Th.zba).length:=zzA.2 hp;unfold Th.zo7 at h ⊢;split
    ·next h9=>rw[if_pos h9]at h;simp at h
    ·exact this
   ·split
    ·next hc hd hs=>rw[if_neg hc,if_neg hd,if_pos hs]at h;simp at h
    ·next hs=>
     have:=zlP (c::r);simp only[zzf];omega
theorem zvx(t:List UInt8):(Th.first t).2.length<=t.length:=by
 cases t with
 |nil=>simp[Th.first]
 |cons c r=>
  simp only[Th.first];split
  ·have:=zuI Th.zlx (c::r);unfold Th.word;split <;> exact this
  ·split
   ·have:=zuI Th.zba (c::r);unfold Th.zo7;split
    ·simp
    ·exact this
   ·split
    ·simp
    ·simp only[zzf];omega
theorem zoN(f:Nat)(t:List UInt8)(p:Nat):Th.zdN (f+1) t p=⟨(Th.first (t.drop (t.takeWhile Th.zda).length)).1,(Th.first (t.drop (t.takeWhile Th.zda).length)).2,p+(t.takeWhile Th.zda).length⟩ ::
  (if (Th.first (t.drop (t.takeWhile Th.zda).length)).1<=1 then [] else Th.zdN f ((t.drop (t.takeWhile Th.zda).length).drop (Th.first (t.drop (t.takeWhile Th.zda).length)).2.length) (p+(t.takeWhile Th.zda).length+(Th.first (t.drop (t.takeWhile Th.zda).length)).2.length)):=rfl
def zoK (t:Th.Tok):Value:=.agg #[.int .i64 t.k,.string ⟨t.s.toArray⟩,.int .i64 t.at_]
def Kp3 (n₀ Bn:Nat) (A B:World):Prop:=Below n₀ A B/\B.heap[Bn]?=A.heap[Bn]?/\∀ (b:Nat) (cs:Array Value),A.heap[b]?=some (.cells cs 135 (0,0))->cs.size=3->B.heap[b]?=some (.cells cs 135 (0,0))
theorem zqr(s:ByteArray)(p:Nat):(s.extract p s.size).data.toList=s.data.toList.drop p:=by
 rw[Lib.extract_data,zy9];simp
theorem zpa{J:List Th.Tok->World->Prop}{B:Nat}(hJ:AbidesFrom B J){pre:List Th.Tok}{A C:World}(h:J pre A)(hb:Below A.heap.size A C):J pre C:=
 hJ pre A C none h (zaf none hb) (by simp)
theorem zsc(n:Nat)(hn:1<=n)(l Bn n₀:Nat)(s:ByteArray)(hs:s.size<=600)(J Jx:List Th.Tok->World->Prop)(hY:∀ pre x W,J pre W->pre.length<(zay s).length->YieldAt Fence.wide (n-1) prog l #[zoK x] W fun e W'=>
   (e=.returned (.bool true)/\J (pre++[x]) W'/\Kp3 n₀ Bn W W')\/(e=.returned (.bool false)/\Jx (pre++[x]) W'))(W:World)(hn₀:n₀<=W.heap.size)(hJ:AbidesFrom W.heap.size J)(DT:W.cell? ⟨Bn,0,none⟩=some (.string s))(h0:J [] W):
  CallsIn Fence.wide n prog 187 #[.func (.yield l) #[] #[],.pointer (some ⟨Bn,0,none⟩)] W fun e W'=>(∃ v,e=.returned v) /\
   ((∃ ys,ys=zay s/\J ys W')\/(∃ pre,pre <+: zay s/\Jx pre W')):=by
 have HY:=zab hY;have HJ:=zab hJ;clear hY hJ;refine callsIn_of_wp func187 rfl trivial ?_ rfl;simp only[ntmps187,zzr,zy8,zzm,Nat.reduceAdd,Nat.reduceSub,zzB,zzC,zzH,zzE,zzb,zy7]
 gi_wp2
 gi_loopw [3] (fun i wr=>∃ (pre:List Th.Tok) (p f:Nat),i=.int .i64 p/\p<=s.size/\s.size-p<=f/\Hid (zay s=pre++Th.zdN (f+1) (s.data.toList.drop p) p)/\wr.cell? ⟨Bn,0,none⟩=some (.string s)/\n₀<=wr.heap.size/\Hid (Below n₀ W wr)/\Hid (J pre wr))
  (fun i _=>s.size+1-(intOf i).toNat)
 case atStart=>exact ⟨[],0,s.size,rfl,zy5 _,by omega,zab (by simp[zay]),DT,hn₀,zab (Below.refl _ _),zab h0⟩
 case round=>
  obtain ⟨pre,p,f,rfl,hp,hf,hT,hB,hz,zF,zM⟩:=hrel;obtain ⟨b,hb⟩:∃ b,((s.data.toList.drop p).takeWhile Th.zda).length=b:=⟨_,rfl⟩;have cV:b<=s.size-p:=by
   have:=zuI Th.zda (s.data.toList.drop p);rw[hb]at this;simpa using this
  obtain ⟨a,ha⟩:∃ a,p+b=a:=⟨_,rfl⟩;have aU:a<=s.size:=by omega
  have js:p<=a:=by omega
  obtain ⟨⟨k,t⟩,jI⟩:∃ x,Th.first (s.data.toList.drop a)=x:=⟨_,rfl⟩
  have cu:=zvx (s.data.toList.drop a);rw[jI]at cu;simp only[zzu]at cu;have Fe:t.length<=s.size-a:=by simpa using cu
  have gl:Hid (zay s=pre++⟨k,t,a⟩::(if k<=1 then [] else Th.zdN f (s.data.toList.drop (a+t.length)) (a+t.length))):=zab (by
   have e:=hT.o;rw[zoN,hb,List.drop_drop,ha,jI]at e;simp only[List.drop_drop]at e;exact e)
  have bp:Hid (2<=k->1<=t.length):=zab (fun h=>by have:=zeO (s.data.toList.drop a) (by rw[jI];exact h);rw[jI]at this;exact this);have Ha:=zab ha;clear ha;have Hb:=zab hb;have Dg:=zab jI;clear hb jI cu hT
  gi_wp2
  refine ⟨trivial,?_⟩;refine (callsIn_wide.2 (zxR _ _ (by rw[ByteArray.size_extract];omega))).mono ?_;rintro e w1 ⟨rfl,pos,aD⟩;rw[zqr,Hb.o];have aA:Below wr.heap.size wr w1:=by rw[aD];exact zam _ _
  have zL:=zab (zpa HJ.o zM.o aA);have ry:=zab (zF.o.trans (aA.mono hz));have cU:w1.cell? ⟨Bn,0,none⟩=some (.string s):=(aA.cell (p:=⟨Bn,0,none⟩) (zeK hB)).trans hB;have aP:n₀<=w1.heap.size:=zyR hz aA.size;clear aA aD hB zM zF hz
  gi_wp2
  refine ⟨trivial,?_⟩;rw[show ((p:Int)+(b:Int))=(a:Int) by have:=Ha.o;omega,show p+b=a from Ha.o];refine (callsIn_wide.2 (zs7 _ _ (by rw[ByteArray.size_extract];omega))).mono ?_;rintro e w2 ⟨rfl,aw⟩;rw[zqr,Dg.o];have wR:=zab (zpa HJ.o (zpa HJ.o zL.o aw) (zam w2 (.cells #[.int .i64 k,.string ⟨t.toArray⟩,.int .i64 (a:Int)] 135)));have oM:=zab ((ry.o.trans (aw.mono aP)).trans ((zam w2 (.cells #[.int .i64 k,.string ⟨t.toArray⟩,.int .i64 (a:Int)] 135)).mono (zyR aP aw.size)));have jh:w2.cell? ⟨Bn,0,none⟩=some (.string s):=(aw.cell (p:=⟨Bn,0,none⟩) (zeK cU)).trans cU;have bF:n₀<=w2.heap.size:=zyR aP aw.size;have hlen:pre.length<(zay s).length:=by rw[gl.o];simp
  obtain ⟨fn,tmps,assign,body,hy,hR⟩:=HY.o pre ⟨k,t,a⟩ _ wR.o hlen;have HR:=zab hR;simp only[zoK]at hy;clear hR aw cU zL ry
  gi_wp2
  refine HR.o.mono ?_;rintro e w3 (⟨rfl,gP,dG⟩|⟨rfl,rD⟩)
  ·have wP:Blk w3 w2.heap.size [.int .i64 k,.string ⟨t.toArray⟩,.int .i64 a] 135:=dG.2.2 _ _ (heap_alloc_new w2 _) rfl;have c0:=wP.cell 0;have c1:=wP.cell 1;simp at c0 c1;have ia:w3.cell? ⟨Bn,0,none⟩=some (.string s):=(World.cell?_of_block (a:=⟨Bn,0,none⟩) dG.2.1).trans ((((zam w2 (.cells #[.int .i64 k,.string ⟨t.toArray⟩,.int .i64 (a:Int)] 135)).cell (p:=⟨Bn,0,none⟩) (zeK jh))).trans jh);have ym:n₀<=w3.heap.size:=by have:=dG.1.size;simp at this;omega
   have wO:=zab (oM.o.trans dG.1);have iu:=zab gP;clear wP dG gP hy HR wR oM jh bF;by_cases dF:k=0
   ·have rK:Hid (zay s=pre++[⟨k,t,a⟩]):=zab (by have e:=gl.o;rw[if_pos (by omega)]at e;exact e);have xC:((k:Int) == 0)=true:=by simp;omega
    have HK:=zab dF;clear dF
    gi_wp2
    refine bodyPost_ret (results_none rfl _ _ _) rfl ?_;exact ⟨⟨_,rfl⟩,.inl ⟨_,rK.o.symm,iu.o⟩⟩
   ·have xC:((k:Int) == 0)=false:=by simp;omega
    by_cases cK:k=1
    ·have rK:Hid (zay s=pre++[⟨k,t,a⟩]):=zab (by have e:=gl.o;rw[if_pos (by omega)]at e;exact e);have xD:((k:Int) == 1)=true:=by simp;omega
     clear dF cK
     gi_wp2
     refine bodyPost_ret (results_none rfl _ _ _) rfl ?_;exact ⟨⟨_,rfl⟩,.inl ⟨_,rK.o.symm,iu.o⟩⟩
    ·have xD:((k:Int) == 1)=false:=by simp;omega
     have rK:Hid (zay s=(pre++[⟨k,t,a⟩])++Th.zdN f (s.data.toList.drop (a+t.length)) (a+t.length)):=zab (by have e:=gl.o;rw[if_neg (by omega)]at e;rw[e];simp);have sN:=bp.o (by omega);clear dF cK
     gi_wp2
     go_roundw
     case rel=>
      cases f with
      |zero=>omega
      |succ f=>
       refine ⟨pre++[⟨k,t,a⟩],a+t.length,f,?_,by omega,by omega,rK,ia,ym,wO,iu⟩
       first|rfl|(congr 1;simp;omega)|go_num
     case measure=>
      simp[intOf];omega
  ·have Ci:=zab rD;clear rD hy HR wR oM jh
   gi_wp2
   refine bodyPost_ret (results_none rfl _ _ _) rfl ?_;refine ⟨⟨_,rfl⟩,.inr ⟨pre++[⟨k,t,a⟩],?_,Ci.o⟩⟩;rw[gl.o];exact ⟨_,by simp;rfl⟩
theorem zxt:(prog.info? 135).map (fun i=>(i.zero,i.size,i.bytes))=some (some (.agg #[.int .i64 0,.string ⟨#[]⟩,.int .i64 0]),3,32):=by kernel_rfl
theorem zq9{P:Program}(w:World)(base:Nat)(t ty e:TypeId)(i:TypeInfo)(z:Value)(bytes:Nat)(ht:P.underlying t=some (.slice e))(hi:P.info? e=some i)(hz:i.zero=some z)(iO:i.size=3)(uG:i.bytes=bytes)(yq:z.cells.size=3)(v:Value)(n:Nat)(xs:List Value)(ai:w.ownsRow base e 3 v n xs)(ck:v=.slice none 0 0\/1<=n)(a:Addr)(c:Nat)(news:List Value)(hl:news.length=1*3)(jK:∀ j u,news[j]?=some u->w.cell? (a.add j)=some u)(h1:∀ u∈news,u.oneCell'=true)(uC:n+1<=maxLen)(gQ:(n+1)*bytes<=140737488355328)(kO:base<=w.heap.size):
  ∃ v' w',(Builtin.append_ #[t,t] ty #[v,.slice (some a) 1 c]).run P w=.ok v' w'/\w'.ownsRow base e 3 v' (n+1) (xs++news)/\w.grownBy w' v.ownBlock/\(v'=.slice none 0 0↔v=.slice none 0 0/\1=0) /\
   (∀ (b:Nat) (cs:Array Value),w.heap[b]?=some (.cells cs e (0,0))->cs.size=3->w'.heap[b]?=some (.cells cs e (0,0))):=by
 obtain ⟨v',w',hr,h2,h3,h4⟩:=run_append_own (P:=P) w base t ty e i z 3 bytes ht hi hz iO uG yq (by omega) v n xs ai a 1 c news hl jK h1 uC gQ kO;refine ⟨v',w',hr,h2,h3,h4,fun b cs hb aE=>?_⟩;have aj:b<w.heap.size:=(zyY.1 hb).1;by_cases hv:some b=v.ownBlock
 ·rcases ai.2 with ⟨rfl,_⟩|⟨g,cap,cur,rfl,rR,hg,o6,lY,fK,AQ⟩
  ·simp[Value.ownBlock]at hv
  ·simp only[Value.ownBlock,zyP]at hv;subst hv;rw[hg]at hb;simp only[zyP,Obj.cells.injEq]at hb;have kS:cap=1:=by rw[<-hb.1,fK]at aE;omega
   rcases ck with ck|ck
   ·cases ck
   ·have holds:∀ j u,xs[j]?=some u->w.cell? ((⟨b,0,none⟩:Addr).add j)=some u:=ai.cells (g:=b) rfl;have cg:=run_append_grow (P:=P) w t ty e i z ht hi hz ⟨b,0,none⟩ n cap xs (by rw[iO];exact ai.1) holds a 1 c news (by rw[iO];exact hl) jK (by omega) (by unfold maxLen at uC;omega) (growslice_fits (by omega) (by rw[uG];exact gQ));rw[cg]at hr;simp only[Result.ok.injEq]at hr;rw[<-hr.2];exact (Below.heap_alloc w.drew _ b aj).trans (by rw[<-hb.1];exact hg)
 ·rw[h3.block b aj hv];exact hb
theorem zgH{F:Fence}{nF:Nat}{P:Program}(w:World){ops:Array Oper}{rest:List Oper}{o:Oper}{a:Act}{Q:Exit->Act->World->Prop}(oY:o.guard=none)(s x:Operand)(t:TypeId)(ho:o.op=.call { callee:=.builtin .append,args:=#[s,x],argTypes:=#[t,t] })(base:Nat)(e:TypeId)(i:TypeInfo)(z:Value)(bytes:Nat)(ht:P.underlying t=some (.slice e))(hi:P.info? e=some i)(hz:i.zero=some z)(iO:i.size=3)(uG:i.bytes=bytes)(yq:z.cells.size=3)(v:Value)(n:Nat)(xs:List Value)(hs:a.eval s=v)(ai:w.ownsRow base e 3 v n xs)(ck:v=.slice none 0 0\/1<=n)(ad:Addr)(c:Nat)(news:List Value)(hx:a.eval x=.slice (some ad) 1 c)(hl:news.length=1*3)(jK:∀ j u,news[j]?=some u->w.cell? (ad.add j)=some u)(h1:∀ u∈news,u.oneCell'=true)(uC:n+1<=maxLen)(gQ:(n+1)*bytes<=140737488355328)(kO:base<=w.heap.size)(h:∀ v' w',w'.ownsRow base e 3 v' (n+1) (xs++news)->w.grownBy w' v.ownBlock ->
   (∀ (b:Nat) (cs:Array Value),w.heap[b]?=some (.cells cs e (0,0))->cs.size=3->w'.heap[b]?=some (.cells cs e (0,0)))->wpListIn F nF P ops Q rest (a.put o.dst v') w'):
  wpListIn F nF P ops Q (o::rest) a w:=by
 refine wpListIn_plain oY fun K hK=>?_
 obtain ⟨v',w',hr,h2,h3,h4,h5⟩:=zq9 (P:=P) w base t o.type e i z bytes ht hi hz iO uG yq v n xs ai ck ad c news hl jK h1 uC gQ kO;unfold Oper.wpIn;refine ⟨by simp[Oper.about,ho,resolve,Target.leads,Sem.run_pure],?_⟩;rw[Oper.semAt_plain F _ _ (by rw[ho];intro c eV;cases eV)];simp[execOp,ho,resolve,invoke,builtin,hs,hx,hr,Result.andThen];exact hK _ _ (h v' w' h2 h3 h5)
variable {n₀ Bn:Nat}
theorem kp3_t{A B C:World}(h:Kp3 n₀ Bn A B)(k:Kp3 n₀ Bn B C):Kp3 n₀ Bn A C:=⟨h.1.trans k.1,k.2.1.trans h.2.1,fun b cs hb hc=>k.2.2 b cs (h.2.2 b cs hb hc) hc⟩
variable {w:World}
theorem kp3_b(hn:n₀<=w.heap.size)(hB:Bn<w.heap.size)(W:World)(l:Nat)(o o':Obj)(hl:w.heap.size<=l)(h:W.heap[l]?=some o)(hc:o.isCells=false)(hw:o.isWalk=false):Kp3 n₀ Bn W (W.putObj l o'):=by
 refine ⟨belowK_b hn W l o o' hl h hc hw,World.putObj_heap_other (by omega),fun b cs hb _=>?_⟩;have aH:b≠l:=by
  intro e;subst e;rw[h]at hb;cases hb;cases hc
 rw[World.putObj_heap_other aH];exact hb
theorem ztl(W:World)(hn:n₀<=W.heap.size)(hB:Bn<W.heap.size)(o:Obj):Kp3 n₀ Bn W (W.alloc o):=
 ⟨(Below.refl n₀ W).alloc hn o,Below.heap_alloc _ _ _ hB,fun b cs hb _=>by rw[Below.heap_alloc _ _ _ (zyY.1 hb).1];exact hb⟩
theorem Blk.own(Bx:Nat)(vs:List Value)(t:TypeId){X Y:World}{row:Option Nat}(h:Blk X Bx vs t)(hg:X.grownBy Y row)(hr:∀ r,row=some r->∃ o:Obj,X.heap[r]?=some o/\o.isCells=false):Blk Y Bx vs t:=by
 refine h.grown hg (fun e=>?_);obtain ⟨o,ho,hc⟩:=hr Bx e.symm;unfold Blk at h;rw[h]at ho;cases ho;cases hc
theorem zk3(l:List Th.Tok)(t:Th.Tok):za2 (l++[t])=za2 l++zb6 t:=by simp[za2]
theorem zxX(t:Th.Tok):∀ u∈zb6 t,u.oneCell'=true:=by
 intro u hu;simp only[zb6,zzo,zzZ,or_false]at hu;rcases hu with rfl|rfl|rfl <;> rfl
theorem zuG(n:Nat)(s:ByteArray)(w:World):
  CallsIn Fence.wide n prog 114 #[.string s] w fun e w'=>e=.returned (.func (.func 187) #[] #[.pointer (some ⟨w.heap.size,0,none⟩)])/\w'=w.alloc (.cells #[.string s] 9):=by
 refine callsIn_of_wp func114 rfl trivial ?_ rfl;simp only[ntmps114,zzr,zy8,zzm,Nat.reduceAdd,Nat.reduceSub,zzB,zzC,zzH,zzE,zzb,zy7]
 gi_wp2
 go_ret
 exact ⟨rfl,rfl⟩
theorem zfE:∀ (f:Nat) (t:List UInt8) (p:Nat),(Th.zdN f t p).length<=f+1
 |0,_,_=>by simp[Th.zdN]
 |f+1,t,p=>by
  rw[zoN];simp only[zy8];split
  ·simp
  ·have:=zfE f ((t.drop (t.takeWhile Th.zda).length).drop (Th.first (t.drop (t.takeWhile Th.zda).length)).2.length) (p+(t.takeWhile Th.zda).length+(Th.first (t.drop (t.takeWhile Th.zda).length)).2.length);omega
theorem zrh(s:ByteArray)(w:World)(hs:s.size<=600):
  CallsIn Fence.wide 5 prog 66 #[.string s] w fun e w'=>∃ v,e=.returned v/\w'.ownsRow w.heap.size 135 3 v (zay s).length (za2 (zay s))/\Below w.heap.size w w':=by
 have Gt:(zay s).length<=602:=by have:=zfE (s.size+1) s.data.toList 0;unfold zay;omega
 obtain ⟨i0,hi,bq,aP,bF⟩:=info_parts zxt;have HI:=zab hi;clear hi;have HZ:=zab (And.intro bq (And.intro aP bF));clear bq aP bF;refine callsIn_of_wp_marks func66 rfl trivial ?_ rfl;simp only[ntmps66,zzr,zy8,zzm,Nat.reduceAdd,Nat.reduceSub,zzB,zzC,zzH,zzE,zzb,zy7]
 gi_wp2
 refine ⟨trivial,?_⟩;refine (zuG 4 s _).mono ?_;rintro e w1 ⟨rfl,rfl⟩
 gi_wp2
 have bO:=Boxed.new w 129 (.slice none 0 0);have bN:=Boxed.new (w.alloc (.cells #[.slice none 0 0] 129)) 9 (.string s);simp only[World.size_alloc]at bN ⊢;have nH:Below w.heap.size w ((w.alloc (.cells #[.slice none 0 0] 129)).alloc (.cells #[.string s] 9)):=((Below.refl _ w).alloc (zyN _) _).alloc (by simp) _;have zq:=bO.alloc (.cells #[.string s] 9);have cT:((w.alloc (.cells #[.slice none 0 0] 129)).alloc (.cells #[.string s] 9)).heap.size=w.heap.size+2:=by simp
 obtain ⟨W0,rL⟩:∃ W0,(w.alloc (.cells #[.slice none 0 0] 129)).alloc (.cells #[.string s] 9)=W0:=⟨_,rfl⟩;rw[rL]at zq bN nH cT ⊢;clear rL bO;refine wpIn_rangeFunc_ownH rfl (by omega) (gf:=187) (lb:=#[.pointer (some ⟨w.heap.size+1,0,none⟩)]) rfl trivial (enters_of func187 (by kernel_rfl) rfl)
  (encs:=fun x:Th.Tok=>#[zoK x]) (Kp:=Kp3 w.heap.size (w.heap.size+1)) (S:=fun ys=>ys=zay s) (Sp:=fun pre=>pre <+: zay s) (N:=(zay s).length) (w0:=W0)
  (fun l J Jx W hW hJ wS hY h0=>zsc _ (by omega) l (w.heap.size+1) w.heap.size s hs J Jx hY W (by have:=hW.size;omega) hJ ((hW.cell (p:=⟨w.heap.size+1,0,none⟩) (by simp;omega)).trans bN.cell) h0)
  kp3_t (kp3_b (by omega) (by omega)) (Below.refl _ _) (fun _=>rfl)
  (fun pre W=>(∃ v,Boxed W w.heap.size 129 v/\W.ownsRow w.heap.size 135 3 v pre.length (za2 pre)/\(v=.slice none 0 0↔pre=[]))/\(Below w.heap.size w W/\Boxed W (w.heap.size+1) 9 (.string s)))
  (fun _ _ _=>False)
  (OwnFrom.and (Own.from (holdsRow_own w.heap.size w.heap.size 129 135 3 (fun pre:List Th.Tok=>pre.length) (fun pre=>za2 pre) (fun pre v=>v=.slice none 0 0↔pre=[])) _) (OwnFrom.and (ownFrom_below (zyN _) (by omega)) (Own.from (boxed_own _ _ _) _)))
  (fun _ _ _ _ _ hs _ _=>hs)
  ⟨⟨_,zq,World.ownsRow_nil _ _ _ _,by simp⟩,nH,bN⟩
  (fun x a' W=>∃ Bx,w.heap.size+1<Bx/\Blk W Bx (zb6 x) 135/\a'={ tmps:=#[.string s,undef,.slice none 0 0,.pointer (some ⟨w.heap.size,0,none⟩),.pointer (some ⟨Bx,0,none⟩),.string s,.func (.func 187) #[] #[.pointer (some ⟨w.heap.size+1,0,none⟩)],zoK x,undef,undef,undef,undef,undef],defers:=[] })
  (fun x a' _ X Y row hs hg hr=>by obtain ⟨Bx,h1,h2,h3⟩:=hs;exact ⟨Bx,h1,h2.own _ _ _ hg (fun r e=>(hr r e).2),h3⟩)
  ?assign ?body ?done ?stop
 case assign=>
  rintro l pre x W K ⟨⟨v,hv,af,ck⟩,⟨cU,eG⟩⟩ hK;unfold zoK at *
  gi_wp2
  exact hK _ _ ((KeepsOthers.alloc _ _).from _) (ztl W cU.size eG.lt _) ⟨⟨v,hv.alloc _,af.alloc _,ck⟩,cU.alloc cU.size _,eG.alloc _⟩ ⟨W.heap.size,eG.lt,Blk.new W _ _,rfl⟩
 case body=>
  rintro l pre x a' W hl ⟨r,hr⟩ ⟨⟨v,hv,af,ck⟩,⟨cU,eG⟩⟩ ⟨Bx,Gp,bX,rfl⟩ aj;have hc:=hv.cell;have x0:=bX.cell 0;have x1:=bX.cell 1;have x2:=bX.cell 2;simp[zb6]at x0 x1 x2;have gK:pre.length<=602:=by omega
  have cR:v=.slice none 0 0\/1<=pre.length:=by
   by_cases he:pre=[]
   ·exact .inl (ck.2 he)
   ·exact .inr (zzA.2 he)
  gi_wp2_with (gi_at_builtin;refine zgH _ rfl _ _ 129 rfl w.heap.size 135 i0 _ 32 underlying129 HI.o HZ.o.1 HZ.o.2.1 HZ.o.2.2 rfl _ pre.length (za2 pre) rfl (af.alloc _) cR ⟨W.heap.size,0,none⟩ 1 (zb6 x) rfl rfl (World.news_of_block (cs:=#[.int .i64 x.k,.string ⟨x.s.toArray⟩,.int .i64 x.at_]) (t:=135) (fr:=(0,0)) (heap_alloc_new W _)) (zxX x) (by unfold maxLen;omega) (by omega) (by have:=cU.size;simp;omega) ?_;intro v' w1 dR ah h5;obtain ⟨g',dU,rfl⟩:=ownsRow_succ dR;obtain ⟨qg,Fl,cg,aG,aw⟩:=hv.appended (by decide) af cU.size (zyN _) dR ah;have bH:=qg.cell;have l8:=qg.frozen)
  refine ⟨aG.from _,⟨aw,?_,?_⟩,⟨_,Fl,?_,?_⟩,cU.trans aw,?_⟩
  ·rw[Below.heap_setCell _ _ _ _ (by simp),ah.block _ (by simp;have:=eG.lt;omega) (eG.not_row (by decide) af),Below.heap_alloc _ _ _ eG.lt]
  ·intro b cs hb aE;have aH:b≠w.heap.size:=by
    intro e;subst e;rw[show W.heap[w.heap.size]?=_ from hv]at hb;cases hb
   rw[Below.heap_setCell _ _ _ _ aH];exact h5 b cs (by rw[Below.heap_alloc _ _ _ (zyY.1 hb).1];exact hb) aE
  ·rw[zk3,zyT];exact cg
  ·simp
  ·exact ((eG.alloc _).kept ah (eG.not_row (by decide) af)).other (by omega) _
 case done=>
  rintro D ys W hD rfl ⟨⟨v,hv,af,ck⟩,⟨hB,_⟩⟩ hK;have hc:=hv.cell
  gi_wp2
  refine ⟨by simp,.inl ⟨_,_,rfl,run_takeDeferred hK,?_⟩⟩;exact ⟨_,results_tmp rfl _ _ _,v,rfl,ownsRow_putObj af _ hK rfl,hB.trans (belowK_b (w:=w) (zyN _) W D _ _ (by omega) hK rfl rfl)⟩
 case stop=>
  rintro D c pre W _ _ h _;exact h.elim
theorem zri:znl:=fun s w hs=>callsIn_wide.1 (zrh s w hs)
end Go.Proofs.YtgahgkddaljmkaaGreatDoor
namespace Go.Proofs.YtgahgkddaljmkaaGreatDoor
open Tryz
open Go.RowKit
def strCells (l:List (List UInt8)):List Value:=l.map fun s=>.string ⟨s.toArray⟩
def after (o:Option Nat) (l:List Nat):Option Nat:=match o with|some p=>some p|none=>l.head?
theorem zbZ(o:Option Nat):after o []=o:=by cases o <;> rfl
theorem zaQ(o:Option Nat)(a b:List Nat):after o (a++b)=after (after o a) b:=by
 cases o with
 |some p=>rfl
 |none=>cases a <;> rfl
def Chk (w:World) (c:Nat) (o:Option Nat):Prop:=Blk w c [.bool o.isSome,.int .i64 (o.getD 0)] 140
variable {w w':World}{o:Option Nat}
theorem Chk.gb{c:Nat}(h:Chk w c o){row:Option Nat}(hg:w.grownBy w' row)(hr:some c≠row):Chk w' c o:=Blk.grown h hg hr
theorem Chk.below{w w':World}{c:Nat}{o:Option Nat}(h:Chk w c o)(hb:Below w.heap.size w w'):Chk w' c o:=Blk.below h hb (Blk.lt h)
theorem Chk.lt{w:World}{c:Nat}{o:Option Nat}(h:Chk w c o):c<w.heap.size:=Blk.lt h
theorem znt{c:Nat}(h:Chk w c o)(s:ByteArray)(p:Nat):
  Calls prog 120 #[.pointer (some ⟨c,0,none⟩),.agg #[.string s,.int .i64 p]] w fun e w'=>e=.returned (.tuple #[])/\Chk w' c (after o [p])/\w.grownBy w' (some c):=by
 have hl:=h.lt;have c0:=Blk.cell h 0;have c1:=Blk.cell h 1;have f0:=Blk.frozen h 0;have f1:=Blk.frozen h 1;have H:=zab h;simp at c0 c1;clear h;cases o with
 |some q=>
  go_enter func120,ntmps120
  go_wp2_with fail
  go_end0
  exact ⟨rfl,Blk.alloc H.o _,zag _ _ _⟩
 |none=>
  go_enter func120,ntmps120
  go_wp2_with fail
  go_end0
  refine ⟨rfl,?_,?_⟩
  ·exact ((Blk.set H.o 0 (.bool true)).set 1 (.int .i64 p)).alloc _
  ·exact zad (zad (zaT _ _ _ _) (zaT _ _ _ _)) (zag _ _ _)
variable {base g n cap:Nat}{xs:List Value}
theorem zg6{i:Nat}{e:TypeId}(h:w.ownsRow base e 1 (.slice (some ⟨g,0,none⟩) n cap) n xs)(hi:i<=n):w.ownsRow base e 1 (.slice (some ⟨g,0,none⟩) i cap) i (xs.take i):=by
 obtain ⟨h1,h2⟩:=h;refine ⟨by simp at h1 ⊢;omega,?_⟩;rcases h2 with ⟨h2,_⟩|⟨g',dU,cur,hv,hg,hh,hn,hm,hs,ht⟩
 ·cases h2
 ·cases hv;refine .inr ⟨g,cap,cur,rfl,hg,hh,by omega,hm,hs,?_⟩;rw[<-ht,zAq];congr 1;omega
theorem znK(l:List (List UInt8))(x:ByteArray):Lib.containsS (l.map fun s=>(⟨s.toArray⟩:ByteArray)) x=l.contains x.data.toList:=by
 rw[zAa,Lib.containsS_iff];simp only[zz1,List.contains_iff_mem];constructor
 ·rintro ⟨s,hs,rfl⟩;simpa using hs
 ·intro h;exact ⟨x.data.toList,h,by cases x;simp⟩
variable {v:Value}
theorem zcJ{l:List (List UInt8)}(h:w.ownsRow base 9 1 v l.length (strCells l))(hl:l.length<=1000000)(x:ByteArray):
  Calls prog 119 #[v,.string x] w fun e w'=>e=.returned (.bool (l.contains x.data.toList))/\w'=w:=by
 have h0:=h;rcases h.2 with ⟨rfl,hn⟩|⟨g,cap,cur,rfl,hg,hh,hn,hm,hs,ht⟩
 ·have:l=[]:=zzn.1 hn;subst this;exact (Tryz.slices_Contains_string_empty none 0 x w).mono fun e w' hw=>by simpa using hw
 ·refine (Tryz.slices_Contains_string g 0 l.length cap (l.map fun s=>(⟨s.toArray⟩:ByteArray)) x w (by simp) (by omega) ?_).mono ?_
  ·intro j hj;simp at hj;have:=h0.cellAt j (by omega);rw[zzG,this];simp[strCells,hj]
  ·rintro e w' ⟨rfl,rfl⟩;rw[zy9 (by simp),znK];exact ⟨rfl,rfl⟩
theorem zgW{c:Nat}(h:Chk w c o)(s:ByteArray)(p:Nat){l:List (List UInt8)}(hr:w.ownsRow base 9 1 v l.length (strCells l))(hl:l.length<=1000000):
  Calls prog 69 #[.pointer (some ⟨c,0,none⟩),.agg #[.string s,.int .i64 p],v] w fun e w'=>e=.returned (.tuple #[])/\Chk w' c (after o (if l.contains s.data.toList then [p] else []))/\w.grownBy w' (some c):=by
 have H:=zab h;have da:=h.lt;have af:=hr.alloc (.cells #[.string s,.int .i64 p] 88);have gV:v=.slice none 0 0\/∃ g cap,v=.slice (some ⟨g,0,none⟩) l.length cap:=zan (Row.zaE hr);clear h hr;cases hc:l.contains s.data.toList
 ·have HC:=zab hc;clear hc;rcases gV with rfl|⟨g,cap,rfl⟩
  all_goals
   go_enter func69,ntmps69
   go_wp2_with fail
   refine (zcJ af hl s).mono ?_;rintro e w1 ⟨rfl,rfl⟩;rw[HC.o];go_wp2_with fail
   go_end0
   refine ⟨rfl,?_,zag _ _ _⟩;simp only[zbZ];exact Blk.alloc H.o _
 ·have HC:=zab hc;clear hc;rcases gV with rfl|⟨g,cap,rfl⟩
  all_goals
   go_enter func69,ntmps69
   go_wp2_with fail
   refine (zcJ af hl s).mono ?_;rintro e w1 ⟨rfl,rfl⟩;rw[HC.o];go_wp2_with fail
   refine (znt (Blk.alloc H.o _) s p).mono ?_;rintro e w2 ⟨rfl,h2,aF⟩;have H2:=zab (And.intro h2 (zad (zag _ _ _) aF));clear h2 aF;go_wp2_with fail
   go_end0
   exact ⟨rfl,H2.o.1,H2.o.2⟩
end Go.Proofs.YtgahgkddaljmkaaGreatDoor
