/- Par9 .. Par13 -/
import Derived.Test.YtgahgkddaljmkaaGreatDoorV11
import Derived.Deep.RegionLaw
import Derived.Deep.AppendLies
import Derived.Deep.DrawnRows
import Derived.Deep.DeepCutAuto
import Derived.Test.YtgahgkddaljmkaaGreatDoorV1
set_option maxRecDepth 100000
set_option maxHeartbeats 4000000
namespace Go.Proofs.YtgahgkddaljmkaaGreatDoor
open Go.RowKit
attribute [local go_sem ↓] Go.wp_at_zero Go.wp_at_succ
theorem zuL:(Tryz.prog.info? 312).map (fun i=>(i.zero,i.size,i.bytes))=some (some (.agg #[.string ⟨#[]⟩,.int .i64 0,.nilIface]),3,40):=by kernel_rfl
theorem RS.drew{w:World}{r tb:Nat}{T:List Th.Tok}{st:Th.St}(h:RS w r tb T st):RS w.drew r tb T st:=h.gb (zbO w none) (by simp) (by simp)
variable {v:Value}
theorem one3{s:ByteArray}{p:Int}(h:v.oneCell'=true):∀ u∈[Value.string s,.int .i64 p,v],u.oneCell'=true:=by
 intro u hu;simp only[zyk,zyU,or_false]at hu;rcases hu with rfl|rfl|rfl
 ·rfl
 ·rfl
 ·exact h
abbrev ztW (w:World) (b o:Nat) (v:Value):Prop:=w.cell? ⟨b,o,none⟩=some v/\w.frozen? ⟨b,o,none⟩=false
variable {w:World}
variable {b:Nat}
theorem zdh{vs:List Value}{t:TypeId}(h:Blk w b vs t)(o:Nat)(e:vs[o]?=some v):ztW w b o v:=⟨(h.cell o).trans e,h.frozen o⟩
variable {w':World}
variable {o:Nat}
theorem ztW.gb(h:ztW w b o v){row:Option Nat}(hg:w.grownBy w' row)(hr:some b≠row):ztW w' b o v:=
 ⟨zl5 hg h.1 hr,by rw[World.frozen?_of_block (w:=w) (hg.block b (zeH h.1) hr)];exact h.2⟩
theorem ztW.drew{w:World}{b o:Nat}{v:Value}(h:ztW w b o v):ztW w.drew b o v:=h
theorem ztW.alloc{w:World}{b o:Nat}{v:Value}(h:ztW w b o v)(ob:Obj):ztW (w.alloc ob) b o v:=h.gb (zag w ob none) (by simp)
structure zkq (w wr:World) (r tb eb:Nat) (T:List Th.Tok) (rc:Bool) (l:List Th.Tok) (es:List Th.Ex) (s1:Th.St) (sv:Value):Prop where
 blk:Blk wr eb [.bool rc,sv,.nilIface] 178
 lo:w.heap.size<=eb
 rs:RS wr r tb T s1
 gb:w.grownBy wr (some r)
 len:l.length=es.length
 parts:∃ pvs,pvs.length=l.length/\wr.ownsRow (eb+1) 312 3 sv l.length (zaM l pvs) /\
  (s1.bad=none->∃ n,∀ (i:Nat) (pv:Value) (p:Th.Ex),pvs[i]?=some pv->es[i]?=some p->Rep (fun b=>eb<b/\some b≠sv.ownBlock) wr n pv p)
theorem zbI{α:Type}{l:List α}{a:α}{i:Nat}{x:α}(h:(l++[a])[i]?=some x):l[i]?=some x\/(i=l.length/\x=a):=by
 rcases zzo i l.length with hi|hi
 ·rw[zx8 hi]at h;exact .inl h
 ·rw[zxZ hi]at h;have:i-l.length=0:=by
   rcases Nat.eq_zero_or_pos (i-l.length) with h0|h0
   ·exact h0
   ·rw[zyG (by simp;omega)]at h;simp at h
  rw[this]at h;simp at h;exact .inr ⟨by omega,h.symm⟩
variable {wr w2 w3:World}
variable {r tb eb:Nat}
variable {T:List Th.Tok}
variable {rc:Bool}
variable {l:List Th.Tok}
variable {es:List Th.Ex}
variable {s1 s2:Th.St}
variable {sv:Value}
variable {e:Th.Ex}
variable {g cap:Nat}
theorem zkq.add{x:Th.Tok}{pvs:List Value}{o:Obj}(hB:zkq w wr r tb eb T rc l es s1 sv)(hl:pvs.length=l.length)(hro:wr.ownsRow (eb+1) 312 3 sv l.length (zaM l pvs))(hre:s1.bad=none->∃ n,∀ (i:Nat) (pv:Value) (p:Th.Ex),pvs[i]?=some pv->es[i]?=some p->Rep (fun b=>eb<b/\some b≠sv.ownBlock) wr n pv p)(hrl:r<w.heap.size)(htl:tb<w.heap.size)(hgot:Got (zat wr.drew) w2 v e s2)(hs2:RS w2 r tb T s2)(hg2:wr.drew.grownBy w2 (some r))(hown:w3.ownsRow (eb+1) 312 3 (.slice (some ⟨g,0,none⟩) (l.length+1) cap) (l.length+1) (zaM l pvs++[.string ⟨x.s.toArray⟩,.int .i64 x.at_,v]))(hgrow:(w2.alloc o).grownBy w3 sv.ownBlock)(hat:sv.ownBlock=some g\/g=w2.heap.size+1)(hbad:s2.bad=none->s1.bad=none):
  zkq w (w3.setCell ⟨eb,1,none⟩ (.slice (some ⟨g,0,none⟩) (l.length+1) cap)) r tb eb T rc (l++[x]) (es++[e]) s2 (.slice (some ⟨g,0,none⟩) (l.length+1) cap):=by
 have hlo:=hB.lo;have heb:=hB.blk.lt;have hz2:wr.heap.size<=w2.heap.size:=hg2.size;have hsvb:∀ b,sv.ownBlock=some b->eb<b/\b<wr.heap.size:=fun b hb=>⟨(hro.lt b hb).1,(hro.lt b hb).2⟩
 have hne:some eb≠sv.ownBlock:=fun e=>by have:=(hsvb eb e.symm).1;omega
 have hge:eb<g:=by
  rcases hat with h|h
  ·exact (hsvb g h).1
  ·omega
 have hrs:some r≠sv.ownBlock:=fun e=>by have:=(hsvb r e.symm).1;omega
 have hts:some tb≠sv.ownBlock:=fun e=>by have:=(hsvb tb e.symm).1;omega
 have hblk3:Blk w3 eb [.bool rc,sv,.nilIface] 178:=((hB.blk.drew.grown hg2 (by simp;omega)).alloc o).grown hgrow hne;refine ⟨?_,hlo,?_,?_,by simp[hB.len],pvs++[v],by simp[hl],?_,?_⟩
 ·exact hblk3.set 1 _
 ·exact ((hs2.alloc o).gb hgrow hrs hts).set eb 1 _ (by omega) (by omega)
 ·refine zap ?_ _ _ hlo;have h1:w.grownBy (w2.alloc o) (some r):=zad (zad (zad hB.gb (zbO wr _)) hg2) (zag w2 o _);exact ⟨hgrow.os.trans h1.os,hgrow.tape.trans h1.tape,hgrow.output.trans h1.output,zxN h1.size hgrow.size,
   fun k hk hr=>(hgrow.block k (zxO hk h1.size) (fun e=>by have:=(hsvb k e.symm).1;omega)).trans (h1.block k hk hr)⟩
 ·rw[zf7 l pvs x v hl.symm,zxP];exact ownsRow_setCell_below (a:=⟨eb,1,none⟩) hown (by simp) _
 ·intro hb;obtain ⟨n1,hn1⟩:=hre (hbad hb);obtain ⟨n2,hn2⟩:=hgot.rep hb;refine ⟨n1+n2,fun i pv p hpv hp=>?_⟩;have key:∀ b,eb<b->some b≠sv.ownBlock->b<w2.heap.size->some b≠some g:=by
   intro b hb1 hb2 hb3 e;cases e;rcases hat with h|h
   ·exact hb2 h.symm
   ·omega
  rcases zbI hpv with h1|⟨h1,rfl⟩
  ·rcases zbI hp with h2|⟨h2,rfl⟩
   ·have hr:=(hn1 i pv p h1 h2).le (zyV n1 n2);have a1:=hr.gb (zbO wr none) (by simp);have a2:=a1.gb hg2 (fun k hk=>by cases hk;omega);have a3:Rep (fun b=>eb<b/\some b≠sv.ownBlock/\b<w2.heap.size) w2 (n1+n2) pv p:=a2.mono (fun k hk h=>⟨h.1,h.2,hk⟩);have a4:=a3.gb (zag w2 o none) (by simp);have a5:=a4.gb hgrow (fun k hk h=>h.2.1 hk.symm);have a6:=a5.gb (zaS w3 eb 1 (.slice (some ⟨g,0,none⟩) (l.length+1) cap)) (fun k hk h=>by cases hk;omega);exact a6.mono (fun k _ h=>⟨h.1,key k h.1 h.2.1 h.2.2⟩)
   ·rw[zyG (by rw[hl,hB.len];omega)]at h1;simp at h1
  ·rcases zbI hp with h2|⟨h2,rfl⟩
   ·rw[zyG (by rw[<-hB.len,<-hl];omega)]at h2;simp at h2
   ·have a2:=hn2.le (zy7 n2 n1);have a3:Rep (fun b=>wr.heap.size<=b/\b<w2.heap.size) w2 (n1+n2) pv p:=a2.mono (fun k hk h=>⟨h,hk⟩);have a4:=a3.gb (zag w2 o none) (by simp);have a5:=a4.gb hgrow (fun k hk h=>by have:=(hsvb k hk).2;omega);have a6:=a5.gb (zaS w3 eb 1 (.slice (some ⟨g,0,none⟩) (l.length+1) cap)) (fun k hk h=>by cases hk;omega);exact a6.mono (fun k _ h=>⟨by omega,key k (by omega) (fun e=>by have:=(hsvb k e.symm).2;omega) h.2⟩)
def zbC (ex:Th.Rd):Prop:=∀ c st q,ex c st=some q->q.2.bad=none->st.bad=none
theorem zc7(st:Th.St):(Th.zaK st).2.bad=none->st.bad=none:=by
 intro h;unfold Th.zaK at h;split at h
 ·simpa [Th.St.adv] using h
 ·simp only at h;unfold Th.St.fail at h;split at h
  ·simp at h
  ·exact h
theorem zkq.step(hB:zkq w wr r tb eb T rc l es s1 sv)(hrl:r<w.heap.size)(hg:wr.grownBy w' (some r))(hs:RS w' r tb T s2)(hb:s2.bad=none->s1.bad=none):zkq w w' r tb eb T rc l es s2 sv:=by
 have hlo:=hB.lo;obtain ⟨pvs,h1,h2,h3⟩:=hB.parts;refine ⟨hB.blk.grown hg (by simp;omega),hlo,hs,zad hB.gb hg,hB.len,pvs,h1,h2.kept hg (zdk h2 (by omega)),fun hbad=>?_⟩;obtain ⟨n,hn⟩:=h3 (hb hbad);exact ⟨n,fun i pv p a b=>(hn i pv p a b).gb hg (fun k hk=>by cases hk;omega)⟩
variable {st:Th.St}
theorem zvF :st.fail.bad≠none:=by
 unfold Th.St.fail;split
 ·simp
 ·simp_all
theorem zwn(hB:zkq w wr r tb eb T rc l es s1 sv)(hrl:r<w.heap.size)(hg:wr.grownBy w' (some r))(hgot:Got (zat wr) w' v e s2)(hb:s2.bad=none->s1.bad=none):
  Got (zat w) (w'.setCell ⟨eb,2,none⟩ v) (.iface 178 (.agg #[.bool rc,sv,v])) (Th.mkLet rc l es e) s2:=by
 have hlo:=hB.lo;have heb:=hB.blk.lt;obtain ⟨pvs,h1,h2,h3⟩:=hB.parts;refine ⟨zbY _ _,fun hbad=>?_⟩;obtain ⟨n1,hn1⟩:=h3 (hb hbad);obtain ⟨n2,hn2⟩:=hgot.rep hbad;have hz:=hB.gb.size;have hset:=zaS w' eb 2 v;refine ⟨n1+n2+1,.inr (.inr (.inr (.inr (.inr (.inr (.inl ?_))))))⟩;refine ⟨by cases rc <;> simp[Th.mkLet],sv,v,e,es,pvs,rfl,by cases rc <;> rfl,hB.len.symm,h1,?_,?_,?_⟩
 ·have hk:=(h2.kept hg (zdk h2 (by omega))).kept hset (zdk h2 (by omega));exact ⟨zaY hk (zx1 _),fun b hb=>by have:=(hk.lt b hb).1;simp only[zat];omega⟩
 ·intro i pv p a b;exact (((hn1 i pv p a b).le (by omega)).gb hg (fun k hk=>by cases hk;omega)).gb hset (fun k hk=>by cases hk;omega)|>.mono (fun k _ h=>by simp only[zat];omega)
 ·exact ((hn2.le (by omega)).gb hset (fun k hk=>by cases hk;simp only[zat];omega)).mono (fun k _ h=>by simp only[zat]at *;omega)
variable {ex:Th.Rd}
variable {c:Bool}
variable {q:Th.Ex × Th.St}
theorem zxf(hx:zr0 ex)(hk:zbC ex){k:Nat}(hkk:k<=1000000)(hq:Th.zsk ex k c st=some q)(h:RS w r tb T st):
  Calls Tryz.prog 193 #[.pointer (some ⟨r,0,none⟩),.bool c] w fun en w'=>Reads w r tb T q.1 q.2 en w':=by
 have hrl:=h.lt;have htl:=h.tlt;obtain ⟨i0,hi0,hz0,hz1,hz2⟩:=info_parts zuL;have HI:=zab hi0;clear hi0;have HZ:=zab (And.intro hz0 (And.intro hz1 hz2));clear hz0 hz1 hz2;unfold Th.zsk at hq;simp only[zxM,zxL]at hq;obtain ⟨q1,hq1,q2,hq2,rfl⟩:=hq;generalize hrc:st.is Th.zoK=rc at hq1 ⊢;have HRC:=zab hrc;obtain ⟨s0,hs0⟩:∃ s,(if rc=true then st.adv else st)=s:=⟨_,rfl⟩;rw[hs0]at hq1;have HS0:=zab hs0;have HQ1:=zab hq1;have HQ2:=zab hq2;clear hrc hq1 hq2 hs0;cases k with
 |zero=>have:=HQ1.o;simp[Th.zcs]at this
 |succ k=>
  have hp:=HQ1.o;rw[Th.zcs]at hp;simp only[zxM]at hp;obtain ⟨q3,hq3,hq4⟩:=hp;have HQ3:=zab hq3;have HQ4:=zab hq4;clear hq3 hq4;go_enter Tryz.func193,Tryz.ntmps193
  go_wp2_with fail
  refine (zbF h ⟨#[114,101,99]⟩ (by simp)).mono ?_;rintro e w1 ⟨rfl,hs1,hg1⟩;rw[show st.is (ByteArray.mk #[114,101,99]).data.toList=rc from HRC.o]at hs1 ⊢;rw[HS0.o]at hs1;have hz:=hg1.size;have HB0:Hid (zkq w (w1.alloc (.cells #[.bool rc,.slice none 0 0,.nilIface] 178)) r tb w1.heap.size T rc [] [] s0 (.slice none 0 0)):=
   zab ⟨Blk.new w1 [.bool rc,.slice none 0 0,.nilIface] 178,hz,hs1.alloc _,zad hg1 (zag w1 _ _),rfl,[],rfl,World.ownsRow_nil _ _ _ _,fun _=>⟨0,fun i pv p hh _=>by simp at hh⟩⟩
  have hS0:=zab (zdh HB0.o.blk 1 (v:=.slice none 0 0) rfl);have CON:=zab (fun (W:World) (hW:RS W r tb T s0)=>zsi hx HQ3.o hW);clear h hs1 hg1;go_wp2_with fail
  go_cut [10] (fun _ wc=>∃ sv,zkq w wc r tb w1.heap.size T rc [(Th.zaK s0).1] [q3.1] q3.2 sv)
  case first=>
   go_region_law (first
    |(refine step_append_lies _ (by rfl) _ _ _ (by rfl) (w1.heap.size+1) 312 i0 _ 3 40 Tryz.underlying176 HI.o HZ.o.1 HZ.o.2.1 HZ.o.2.2 rfl (by omega) (.slice none 0 0) 0 [] (by rfl) (World.ownsRow_nil _ _ _ _) ⟨w2.heap.size,0,none⟩ 1 1 [.string ⟨(Th.zaK s0).1.s.toArray⟩,.int .i64 (Th.zaK s0).1.at_,v] (by rfl) (by rfl) (World.news_of_block (cs:=#[.string ⟨(Th.zaK s0).1.s.toArray⟩,.int .i64 (Th.zaK s0).1.at_,v]) (t:=312) (fr:=(0,0)) (heap_alloc_new w2 _)) (one3 hone) (by omega) (by unfold maxLen;omega) (by omega) (by simp;omega) (w2.heap.size+1) (by simp) ?_;intro g cap w3 hown hgrow hat hlt;have h3:=zab ((H2.o.alloc _).gb hgrow (by simp[Value.ownBlock]));have h3c:=h3.o.1;have h3f:=h3.o.2)
    |(go_simp;go_wp2_with (go_at_call 249;refine (CON.o _ ?_).mono ?_;exact HB0.o.rs.drew;rintro e w2 ⟨v,rfl,hgot,hs2,hg2⟩;have hone:=hgot.one.one;have hsz2:w1.heap.size<w2.heap.size:=(by have:=hg2.size;simp at this;omega);have Hgot:=zab hgot;have Hs2:=zab hs2;have HG2:=zab hg2;have H2:=zab (hS0.o.drew.gb hg2 (by simp;omega));have h2c:=H2.o.1;have h2f:=H2.o.2;clear hgot hs2)))
   all_goals
    go_wp2_with fail
    go_meet
    case rel=>
     exact ⟨_,HB0.o.add (pvs:=[]) rfl (World.ownsRow_nil _ _ _ _) (fun _=>⟨0,fun i pv p hh _=>by simp at hh⟩) hrl htl Hgot.o Hs2.o HG2.o hown hgrow hat (fun hb=>zc7 _ (zaC [61] _ (hk _ _ _ HQ3.o hb)))⟩
  case rest=>
   obtain ⟨sv0,hB1⟩:=hcut;have HB1:=zab hB1;clear hB1;go_wp2_with fail
   go_loopg [17] k (fun g _ wr=>∃ l es s1 sv,zkq w wr r tb w1.heap.size T rc l es s1 sv/\l≠[]/\l.length+g<=k+1/\(if s1.is [59]=true then Th.zcs ex g l es s1.adv else some (l,es,s1))=some q1)
   case atStart=>exact ⟨_,_,_,_,HB1.o,by simp,by simp;omega,HQ4.o⟩
   case round=>
    obtain ⟨l,es,s1,sv,hB,hne,hlk,hp⟩:=hrel;have HB:=zab hB;have hs:=hB.rs;clear hB;cases h5:s1.is [59]
    ·rw[h5]at hp;simp only[zys,if_false,zxL]at hp;subst hp;have H5:=zab h5;clear h5;go_wp2_with fail
     refine (zbF hs ⟨#[59]⟩ (by simp)).mono ?_;rintro e w4 ⟨rfl,hs4,hg4⟩;rw[show s1.is (ByteArray.mk #[59]).data.toList=false from H5.o]at hs4 ⊢;have hs4':RS w4 r tb T s1:=by simpa using hs4
     have HB4:=zab (HB.o.step hrl hg4 hs4' (fun hb=>hb));clear hs hs4 hg4;go_wp2_with fail
     refine (zaW hs4' ⟨#[105,110]⟩ (by simp)).mono ?_;rintro e w5 ⟨rfl,hs5,hg5⟩;have HB5:=zab (HB4.o.step hrl hg5 hs5 (zaC _ _));clear hs4' hg5;go_wp2_with fail
     refine (hx _ _ _ _ _ _ _ HQ2.o hs5).mono ?_;rintro en w6 ⟨v,rfl,hgot,hs6,hg6⟩;have hB6:=HB5.o.blk.grown hg6 (by simp;omega);have d0:=hB6.cell 0;have d1:=hB6.cell 1;have d2:=hB6.cell 2;have f2:=hB6.frozen 2;simp at d0 d1 d2;have FIN:=zab (zwn HB5.o hrl hg6 hgot (fun hb=>hk _ _ _ HQ2.o hb));have HG6:=zab (zap (zad HB5.o.gb hg6) ⟨w1.heap.size,2,none⟩ v hz);have Hs6:=zab (hs6.set w1.heap.size 2 v (by omega) (by omega));have ho:=hgot.one;obtain ⟨pvs,-,hrow,-⟩:=HB5.o.parts;have hsh:=zan (Row.zaE hrow);clear hs5 hgot hs6 hg6 hB6 hrow;rcases hsh with rfl|⟨gs,caps,rfl⟩ <;> rcases ho.shape with rfl|⟨t1,x1,rfl⟩
     all_goals
      clear ho;go_wp2_with fail
      go_ret
      exact ⟨_,rfl,FIN.o,Hs6.o,HG6.o⟩
    ·rw[h5]at hp;simp only[if_true]at hp;cases gk with
     |zero=>simp[Th.zcs]at hp
     |succ g0=>
      rw[Th.zcs]at hp;simp only[zxM]at hp;obtain ⟨q5,hq5,hq6⟩:=hp;have HQ5:=zab hq5;have HQ6:=zab hq6;have H5:=zab h5;have CON2:=zab (fun (W:World) (hW:RS W r tb T s1.adv)=>zsi hx HQ5.o hW);clear h5 hq5 hq6;go_wp2_with fail
      refine (zbF hs ⟨#[59]⟩ (by simp)).mono ?_;rintro e w4 ⟨rfl,hs4,hg4⟩;rw[show s1.is (ByteArray.mk #[59]).data.toList=true from H5.o]at hs4 ⊢;have hs4':RS w4 r tb T s1.adv:=by simpa using hs4
      have HB4:=zab (HB.o.step hrl hg4 hs4' (fun _=>zhZ H5.o));obtain ⟨pvs,hpl,hrow,hrep⟩:=HB4.o.parts;have hsh:=zan (Row.zaE hrow);rcases hsh with rfl|⟨gs,caps,rfl⟩
      ·exfalso;rcases hrow.2 with ⟨-,h0⟩|⟨_,_,_,h0,_⟩
       ·exact hne (zyj.1 h0)
       ·cases h0
      ·have hgs:=(hrow.lt gs rfl);have HR:=zab (And.intro hpl (And.intro hrow hrep));have hS4:=zab (zdh HB4.o.blk 1 (v:=.slice (some ⟨gs,0,none⟩) l.length caps) rfl);have h4c:=hS4.o.1;have h4f:=hS4.o.2;have hl4:=HB4.o.blk.lt;clear hs hs4 hg4 hs4' hpl hrow hrep;go_wp2_with fail
       go_region_law (first
        |(refine step_append_lies _ (by rfl) _ _ _ (by rfl) (w1.heap.size+1) 312 i0 _ 3 40 Tryz.underlying176 HI.o HZ.o.1 HZ.o.2.1 HZ.o.2.2 rfl (by omega) (.slice (some ⟨gs,0,none⟩) l.length caps) l.length (zaM l pvs) (by rfl) (hrow5.alloc _) ⟨w5.heap.size,0,none⟩ 1 1 [.string ⟨(Th.zaK s1.adv).1.s.toArray⟩,.int .i64 (Th.zaK s1.adv).1.at_,v5] (by rfl) (by rfl) (World.news_of_block (cs:=#[.string ⟨(Th.zaK s1.adv).1.s.toArray⟩,.int .i64 (Th.zaK s1.adv).1.at_,v5]) (t:=312) (fr:=(0,0)) (heap_alloc_new w5 _)) (one3 hone) (by omega) (by unfold maxLen;omega) (by omega) (by simp;omega) (w5.heap.size+1) (by simp) ?_;intro g cap w6 hown hgrow hat hlt;have h6:=zab ((H5h.o.alloc _).gb hgrow (by simp[Value.ownBlock];omega));have h6c:=h6.o.1;have h6f:=h6.o.2)
        |(go_simp;go_wp2_with (go_at_call 249;refine (CON2.o _ ?_).mono ?_;exact HB4.o.rs.drew;rintro e w5 ⟨v5,rfl,hgot,hs5,hg5⟩;have hone:=hgot.one.one;have hsz5:w1.heap.size<w5.heap.size:=(by have:=hg5.size;simp at this;omega);have Hgot:=zab hgot;have Hs5:=zab hs5;have HG5:=zab hg5;have H5h:=zab (hS4.o.drew.gb hg5 (by simp;omega));have h5c:=H5h.o.1;have h5f:=H5h.o.2;have hrow5:=HR.o.2.1.drew.kept hg5 (zdk HR.o.2.1 (by omega));clear hgot hs5)))
       all_goals
        go_wp2_with fail
        go_roundg g0
        case measure=>omega
        case rel=>
         exact ⟨_,_,_,_,HB4.o.add HR.o.1 HR.o.2.1 HR.o.2.2 hrl htl Hgot.o Hs5.o HG5.o hown hgrow hat (fun hb=>zc7 _ (zaC [61] _ (hk _ _ _ HQ5.o hb))),by simp,by simp;omega,HQ6.o⟩
theorem zwm:(Tryz.prog.info? 240).map (fun i=>(i.zero,i.size,i.bytes))=some (some (.agg #[.int .i64 0,.slice none 0 0,.nilIface]),3,48):=by kernel_rfl
theorem onea{p:Int}{u:Value}(h1:u.oneCell'=true)(h:v.oneCell'=true):∀ x∈[Value.int .i64 p,u,v],x.oneCell'=true:=by
 intro x hu;simp only[zyk,zyU,or_false]at hu;rcases hu with rfl|rfl|rfl
 ·rfl
 ·exact h1
 ·exact h
theorem row_one{S:Nat->Prop}{e:TypeId}{size n:Nat}{xs:List Value}(h:Row S w e size v n xs):v.oneCell'=true:=by
 rcases zan h with rfl|⟨g,cap,rfl⟩ <;> rfl
structure zuj (w wr:World) (r tb eb:Nat) (T:List Th.Tok) (cv:Value) (ce:Th.Ex) (l:List (Nat × List Th.Tok)) (es:List Th.Ex) (s1:Th.St) (sv:Value):Prop where
 blk:Blk wr eb [cv,sv] 173
 lo:w.heap.size<=eb
 rs:RS wr r tb T s1
 gb:w.grownBy wr (some r)
 len:l.length=es.length
 subj:s1.bad=none->∃ n,Rep (fun b=>zat w b/\b<eb) wr n cv ce
 parts:∃ nvs bvs,nvs.length=l.length/\bvs.length=l.length/\wr.ownsRow (eb+1) 240 3 sv l.length (za7 l nvs bvs) /\
  (s1.bad=none->∃ n,(∀ (i:Nat) (a:Nat × List Th.Tok) (nv:Value),l[i]?=some a->nvs[i]?=some nv->Row (fun b=>eb<b/\some b≠sv.ownBlock) wr 88 2 nv a.2.length (zaj a.2)) /\
   (∀ (i:Nat) (bv:Value) (p:Th.Ex),bvs[i]?=some bv->es[i]?=some p->Rep (fun b=>eb<b/\some b≠sv.ownBlock) wr n bv p))
variable {cv:Value}
variable {ce:Th.Ex}
theorem zuj.add{l:List (Nat × List Th.Tok)}{nv:Value}{x:Nat × List Th.Tok}{nvs bvs:List Value}{o:Obj}(hB:zuj w wr r tb eb T cv ce l es s1 sv)(hl1:nvs.length=l.length)(hl2:bvs.length=l.length)(hro:wr.ownsRow (eb+1) 240 3 sv l.length (za7 l nvs bvs))(hre:s1.bad=none->∃ n,(∀ (i:Nat) (a:Nat × List Th.Tok) (nv:Value),l[i]?=some a->nvs[i]?=some nv->Row (fun b=>eb<b/\some b≠sv.ownBlock) wr 88 2 nv a.2.length (zaj a.2)) /\
   (∀ (i:Nat) (bv:Value) (p:Th.Ex),bvs[i]?=some bv->es[i]?=some p->Rep (fun b=>eb<b/\some b≠sv.ownBlock) wr n bv p))(hrl:r<w.heap.size)(htl:tb<w.heap.size)(hnv:Row (zat wr.drew) w2 88 2 nv x.2.length (zaj x.2))(hgot:Got (zat wr.drew) w2 v e s2)(hs2:RS w2 r tb T s2)(hg2:wr.drew.grownBy w2 (some r))(hown:w3.ownsRow (eb+1) 240 3 (.slice (some ⟨g,0,none⟩) (l.length+1) cap) (l.length+1) (za7 l nvs bvs++[.int .i64 x.1,nv,v]))(hgrow:(w2.alloc o).grownBy w3 sv.ownBlock)(hat:sv.ownBlock=some g\/g=w2.heap.size+1)(hbad:s2.bad=none->s1.bad=none):
  zuj w (w3.setCell ⟨eb,1,none⟩ (.slice (some ⟨g,0,none⟩) (l.length+1) cap)) r tb eb T cv ce (l++[x]) (es++[e]) s2 (.slice (some ⟨g,0,none⟩) (l.length+1) cap):=by
 have hlo:=hB.lo;have heb:=hB.blk.lt;have hz2:wr.heap.size<=w2.heap.size:=hg2.size;have hsvb:∀ b,sv.ownBlock=some b->eb<b/\b<wr.heap.size:=fun b hb=>⟨(hro.lt b hb).1,(hro.lt b hb).2⟩
 have hne:some eb≠sv.ownBlock:=fun e=>by have:=(hsvb eb e.symm).1;omega
 have hge:eb<g:=by
  rcases hat with h|h
  ·exact (hsvb g h).1
  ·omega
 have hrs:some r≠sv.ownBlock:=fun e=>by have:=(hsvb r e.symm).1;omega
 have hts:some tb≠sv.ownBlock:=fun e=>by have:=(hsvb tb e.symm).1;omega
 have hblk3:Blk w3 eb [cv,sv] 173:=((hB.blk.drew.grown hg2 (by simp;omega)).alloc o).grown hgrow hne;have key:∀ b,eb<b->some b≠sv.ownBlock->b<w2.heap.size->some b≠some g:=by
  intro b hb1 hb2 hb3 e;cases e;rcases hat with h|h
  ·exact hb2 h.symm
  ·omega
 have oldR:∀ {ty:TypeId} {sz m:Nat} {u:Value} {ys:List Value},Row (fun b=>eb<b/\some b≠sv.ownBlock) wr ty sz u m ys ->
   Row (fun b=>eb<b/\some b≠some g) (w3.setCell ⟨eb,1,none⟩ (.slice (some ⟨g,0,none⟩) (l.length+1) cap)) ty sz u m ys:=by
  intro ty sz m u ys hr;have a1:=hr.gb (zbO wr none) (by simp);have a2:=a1.gb hg2 (fun k hk=>by cases hk;omega);have a3:Row (fun b=>eb<b/\some b≠sv.ownBlock/\b<w2.heap.size) w2 ty sz u m ys:=a2.mono (fun k hk h=>⟨h.1,h.2,hk⟩);have a4:=a3.gb (zag w2 o none) (by simp);have a5:=a4.gb hgrow (fun k hk h=>h.2.1 hk.symm);have a6:=a5.gb (zaS w3 eb 1 (.slice (some ⟨g,0,none⟩) (l.length+1) cap)) (fun k hk h=>by cases hk;omega);exact a6.mono (fun k _ h=>⟨h.1,key k h.1 h.2.1 h.2.2⟩)
 have newR:∀ {ty:TypeId} {sz m:Nat} {u:Value} {ys:List Value},Row (zat wr.drew) w2 ty sz u m ys ->
   Row (fun b=>eb<b/\some b≠some g) (w3.setCell ⟨eb,1,none⟩ (.slice (some ⟨g,0,none⟩) (l.length+1) cap)) ty sz u m ys:=by
  intro ty sz m u ys hr;have a3:Row (fun b=>wr.heap.size<=b/\b<w2.heap.size) w2 ty sz u m ys:=hr.mono (fun k hk h=>⟨h,hk⟩);have a4:=a3.gb (zag w2 o none) (by simp);have a5:=a4.gb hgrow (fun k hk h=>by have:=(hsvb k hk).2;omega);have a6:=a5.gb (zaS w3 eb 1 (.slice (some ⟨g,0,none⟩) (l.length+1) cap)) (fun k hk h=>by cases hk;omega);exact a6.mono (fun k _ h=>⟨by omega,key k (by omega) (fun e=>by have:=(hsvb k e.symm).2;omega) h.2⟩)
 refine ⟨?_,hlo,?_,?_,by simp[hB.len],?_,nvs++[nv],bvs++[v],by simp[hl1],by simp[hl2],?_,?_⟩
 ·exact hblk3.set 1 _
 ·exact ((hs2.alloc o).gb hgrow hrs hts).set eb 1 _ (by omega) (by omega)
 ·refine zap ?_ _ _ hlo;have h1:w.grownBy (w2.alloc o) (some r):=zad (zad (zad hB.gb (zbO wr _)) hg2) (zag w2 o _);exact ⟨hgrow.os.trans h1.os,hgrow.tape.trans h1.tape,hgrow.output.trans h1.output,zxN h1.size hgrow.size,
   fun k hk hr=>(hgrow.block k (zxO hk h1.size) (fun e=>by have:=(hsvb k e.symm).1;omega)).trans (h1.block k hk hr)⟩
 ·intro hb;obtain ⟨n,hn⟩:=hB.subj (hbad hb);exact ⟨n,((((hn.gb (zbO wr none) (by simp)).gb hg2 (fun k hk h=>by cases hk;simp only[zat]at h;omega)).gb (zag w2 o none) (by simp)).gb hgrow (fun k hk h=>by have:=(hsvb k hk).1;omega)).gb (zaS w3 eb 1 _) (fun k hk h=>by cases hk;omega)⟩
 ·rw[zgX l nvs bvs x nv v hl1.symm hl2.symm,zxP];exact ownsRow_setCell_below (a:=⟨eb,1,none⟩) hown (by simp) _
 ·intro hb;obtain ⟨n1,hr1,hn1⟩:=hre (hbad hb);obtain ⟨n2,hn2⟩:=hgot.rep hb;refine ⟨n1+n2,fun i a u ha hu=>?_,fun i pv p hpv hp=>?_⟩
  ·rcases zbI ha with h1|⟨h1,rfl⟩
   ·rcases zbI hu with h2|⟨h2,rfl⟩
    ·exact oldR (hr1 i a u h1 h2)
    ·rw[zyG (by omega)]at h1;simp at h1
   ·rcases zbI hu with h2|⟨h2,rfl⟩
    ·rw[zyG (by omega)]at h2;simp at h2
    ·exact newR hnv
  ·rcases zbI hpv with h1|⟨h1,rfl⟩
   ·rcases zbI hp with h2|⟨h2,rfl⟩
    ·exact Rep.imp (fun _ _ _ _ _ hR=>oldR hR) _ _ _ ((hn1 i pv p h1 h2).le (zyV n1 n2))
    ·rw[zyG (by rw[hl2,hB.len];omega)]at h1;simp at h1
   ·rcases zbI hp with h2|⟨h2,rfl⟩
    ·rw[zyG (by rw[<-hB.len,<-hl2];omega)]at h2;simp at h2
    ·exact Rep.imp (fun _ _ _ _ _ hR=>newR hR) _ _ _ (hn2.le (zy7 n2 n1))
theorem zuj.step{l:List (Nat × List Th.Tok)}(hB:zuj w wr r tb eb T cv ce l es s1 sv)(hrl:r<w.heap.size)(hg:wr.grownBy w' (some r))(hs:RS w' r tb T s2)(hb:s2.bad=none->s1.bad=none):zuj w w' r tb eb T cv ce l es s2 sv:=by
 have hlo:=hB.lo;obtain ⟨nvs,bvs,h1,h1',h2,h3⟩:=hB.parts;refine ⟨hB.blk.grown hg (by simp;omega),hlo,hs,zad hB.gb hg,hB.len,?_,nvs,bvs,h1,h1',h2.kept hg (zdk h2 (by omega)),fun hbad=>?_⟩
 ·intro hbad;obtain ⟨n,hn⟩:=hB.subj (hb hbad);exact ⟨n,hn.gb hg (fun k hk h=>by cases hk;simp only[zat]at h;omega)⟩
 ·obtain ⟨n,hr,hn⟩:=h3 (hb hbad);exact ⟨n,fun i a u x y=>(hr i a u x y).gb hg (fun k hk=>by cases hk;omega),fun i pv p a b=>(hn i pv p a b).gb hg (fun k hk=>by cases hk;omega)⟩
theorem zuS{l:List (Nat × List Th.Tok)}(hB:zuj w wr r tb eb T cv ce l es s1 sv):
  Got (zat w) wr (.iface 173 (.agg #[cv,sv])) (Th.mkCase ce l es) s1:=by
 have hlo:=hB.lo;obtain ⟨nvs,bvs,h1,h1',h2,h3⟩:=hB.parts;refine ⟨zbY _ _,fun hbad=>?_⟩;obtain ⟨n1,hr,hn1⟩:=h3 hbad;obtain ⟨n2,hn2⟩:=hB.subj hbad;refine ⟨n1+n2+1,.inr (.inr (.inr (.inr (.inr (.inr (.inr ?_))))))⟩;refine ⟨rfl,cv,sv,ce,es,nvs,bvs,rfl,rfl,hB.len.symm,h1,h1',?_,?_,?_,?_⟩
 ·exact ⟨zaY h2 (zx1 _),fun b hb=>by have:=(h2.lt b hb).1;simp only[zat];omega⟩
 ·exact fun i a u x y=>(hr i a u x y).mono (fun k _ h=>by simp only[zat];omega)
 ·exact fun i pv p a b=>((hn1 i pv p a b).le (by omega)).mono (fun k _ h=>by simp only[zat];omega)
 ·exact (hn2.le (by omega)).mono (fun k _ h=>h.1)
theorem zcO(st:Th.St):(Th.zax st).2.bad=none->st.bad=none:=by
 intro h;unfold Th.zax at h;split at h
 ·simp_all
 ·exact h
theorem zfi(hk:zbC ex){q:(Nat × List Th.Tok) × Th.Ex × Th.St}(h:Th.ztY ex c st=some q):q.2.2.bad=none->st.bad=none:=by
 unfold Th.ztY at h;simp only[zxM,zxL]at h;obtain ⟨q1,h1,rfl⟩:=h;intro hb;exact zaC _ _ (zdQ _ _ _ (zaC _ _ (zcO _ (zaC _ _ (hk _ _ _ h1 hb)))))
theorem zlc(h:Th.za6 c st=true):st.is [59]=true:=by
 unfold Th.za6 at h;cases hi:st.is [59]
 ·rw[hi]at h;simp at h
 ·rfl
theorem ztH(hx:zr0 ex)(hk:zbC ex){k:Nat}(hkk:k<=1000000)(hq:Th.zjC ex k c st=some q)(h:RS w r tb T st):
  Calls Tryz.prog 194 #[.pointer (some ⟨r,0,none⟩),.bool c] w fun en w'=>Reads w r tb T q.1 q.2 en w':=by
 have hrl:=h.lt;have htl:=h.tlt;obtain ⟨i0,hi0,hz0,hz1,hz2⟩:=info_parts zwm;have HI:=zab hi0;clear hi0;have HZ:=zab (And.intro hz0 (And.intro hz1 hz2));clear hz0 hz1 hz2;unfold Th.zjC at hq;simp only[zxM,zxL]at hq;obtain ⟨q0,hq0,q1,hq1,rfl⟩:=hq;have HQ0:=zab hq0;have HQ1:=zab hq1;clear hq0 hq1;cases k with
 |zero=>have:=HQ1.o;simp[Th.zeA]at this
 |succ k=>
  have hp:=HQ1.o;rw[Th.zeA]at hp;simp only[zxM]at hp;obtain ⟨q3,hq3,hq4⟩:=hp;have HQ3:=zab hq3;have HQ4:=zab hq4;clear hq3 hq4;go_enter Tryz.func194,Tryz.ntmps194
  go_wp2_with fail
  refine (hx _ _ _ _ _ _ _ HQ0.o h).mono ?_;rintro e w1 ⟨cv,rfl,hgot1,hs1,hg1⟩;have hz:=hg1.size;have ho:=hgot1.one;have HB0:Hid (zuj w (w1.alloc (.cells #[cv,.slice none 0 0] 173)) r tb w1.heap.size T cv q0.1 [] [] q0.2 (.slice none 0 0)):=
   zab ⟨Blk.new w1 [cv,.slice none 0 0] 173,hz,hs1.alloc _,zad hg1 (zag w1 _ _),rfl,
    fun hb=>by obtain ⟨n,hn⟩:=hgot1.rep hb;exact ⟨n,(hn.mono (fun k hk h=>⟨h,hk⟩)).gb (zag w1 _ none) (by simp)⟩,[],[],rfl,rfl,World.ownsRow_nil _ _ _ _,fun _=>⟨0,fun i pv p hh _=>by simp at hh,fun i pv p hh _=>by simp at hh⟩⟩
  clear h hs1 hg1 hgot1;rcases ho.shape with rfl|⟨t1,x1,rfl⟩
  all_goals
   clear ho;go_wp2_with fail
   refine (zaW HB0.o.rs ⟨#[111,102]⟩ (by simp)).mono ?_;rintro e w9 ⟨rfl,hs9,hg9⟩;have HB9:=zab (HB0.o.step hrl hg9 hs9 (zaC _ _));have hS0:=zab (zdh HB9.o.blk 1 (v:=.slice none 0 0) rfl);have h9c:=hS0.o.1;have h9f:=hS0.o.2;have hl9:=HB9.o.blk.lt;have CON:=zab (fun (W:World) (hW:RS W r tb T (Th.want Th.sOf q0.2))=>zv3 hx HQ3.o hW);clear hs9 hg9;go_wp2_with fail
   go_cut [12] (fun _ wc=>∃ cv sv,One cv/\zuj w wc r tb w1.heap.size T cv q0.1 [q3.1] [q3.2.1] q3.2.2 sv)
   case first=>
    go_region_law (first
     |(refine step_append_lies _ (by rfl) _ _ _ (by rfl) (w1.heap.size+1) 240 i0 _ 3 48 Tryz.underlying171 HI.o HZ.o.1 HZ.o.2.1 HZ.o.2.2 rfl (by omega) (.slice none 0 0) 0 [] (by rfl) (World.ownsRow_nil _ _ _ _) ⟨w2.heap.size,0,none⟩ 1 1 [.int .i64 q3.1.1,nv,v] (by rfl) (by rfl) (World.news_of_block (cs:=#[.int .i64 q3.1.1,nv,v]) (t:=240) (fr:=(0,0)) (heap_alloc_new w2 _)) (onea hone1 hone) (by omega) (by unfold maxLen;omega) (by omega) (by simp;omega) (w2.heap.size+1) (by simp) ?_;intro g cap w3 hown hgrow hat hlt;have h3:=zab ((H2.o.alloc _).gb hgrow (by simp[Value.ownBlock]));have h3c:=h3.o.1;have h3f:=h3.o.2)
     |(go_simp;go_wp2_with (go_at_call 250;refine (CON.o _ ?_).mono ?_;exact HB9.o.rs.drew;rintro e w2 ⟨nv,v,rfl,hnv,hgot,hs2,hg2⟩;have hone:=hgot.one.one;have hone1:=row_one hnv;have hsz2:w1.heap.size<w2.heap.size:=(by have:=hg2.size;simp at this;omega);have Hnv:=zab hnv;have Hgot:=zab hgot;have Hs2:=zab hs2;have HG2:=zab hg2;have H2:=zab (hS0.o.drew.gb hg2 (by simp;omega));have h2c:=H2.o.1;have h2f:=H2.o.2;clear hgot hs2 hnv)))
    all_goals
     go_wp2_with fail
     go_meet
     case rel=>
      exact ⟨_,_,⟨by first|exact .inl rfl|exact .inr ⟨_,_,rfl⟩⟩,HB9.o.add (nvs:=[]) (bvs:=[]) rfl rfl (World.ownsRow_nil _ _ _ _) (fun _=>⟨0,fun i pv p hh _=>by simp at hh,fun i pv p hh _=>by simp at hh⟩) hrl htl Hnv.o Hgot.o Hs2.o HG2.o hown hgrow hat (zfi hk HQ3.o)⟩
   case rest=>
    obtain ⟨cv1,sv0,ho1,hB1⟩:=hcut;have HB1:=zab (And.intro ho1 hB1);clear hB1 ho1;go_wp2_with fail
    go_loopg [21] k (fun g _ wr=>∃ cv l es s1 sv,One cv/\zuj w wr r tb w1.heap.size T cv q0.1 l es s1 sv/\l≠[]/\l.length+g<=k+1/\(if Th.za6 c s1=true then Th.zeA ex c g l es s1.adv else some (l,es,s1))=some q1)
    case atStart=>exact ⟨_,_,_,_,_,HB1.o.1,HB1.o.2,by simp,by simp;omega,HQ4.o⟩
    case round=>
     obtain ⟨cv,l,es,s1,sv,hoc,hB,hne,hlk,hp⟩:=hrel;have HB:=zab hB;have hs:=hB.rs;have HO:=zab hoc;clear hB hoc;cases h5:Th.za6 c s1
     ·rw[h5]at hp;simp only[zys,if_false,zxL]at hp;subst hp;have H5:=zab h5;clear h5;go_wp2_with fail
      refine (zfT hs c).mono ?_;rintro e w4 ⟨rfl,hb4⟩;rw[H5.o];have HB4:=zab (HB.o.step hrl (zaf _ hb4) (hs.below hb4) (fun hb=>hb));have d0:=HB4.o.blk.cell 0;have d1:=HB4.o.blk.cell 1;simp at d0 d1;have FIN:=zab (zuS HB4.o);obtain ⟨nvs,bvs,-,-,hrow,-⟩:=HB4.o.parts;have hsh:=zan (Row.zaE hrow);clear hs hb4 hrow;rcases hsh with rfl|⟨gs,caps,rfl⟩ <;> rcases HO.o.shape with rfl|⟨t2,x2,rfl⟩
      all_goals
       go_wp2_with fail
       go_ret
       exact ⟨_,rfl,FIN.o,HB4.o.rs,HB4.o.gb⟩
     ·rw[h5]at hp;simp only[if_true]at hp;cases gk with
      |zero=>simp[Th.zeA]at hp
      |succ g0=>
       rw[Th.zeA]at hp;simp only[zxM]at hp;obtain ⟨q5,hq5,hq6⟩:=hp;have HQ5:=zab hq5;have HQ6:=zab hq6;have H5:=zab h5;have Hw:Hid (Th.want [59] s1=s1.adv):=zab (by rw[Th.want,zlc h5];simp);have CON2:=zab (fun (W:World) (hW:RS W r tb T s1.adv)=>zv3 hx HQ5.o hW);clear h5 hq5 hq6;go_wp2_with fail
       refine (zfT hs c).mono ?_;rintro e w8 ⟨rfl,hb8⟩;rw[H5.o];have hs8:=hs.below hb8;have HB8:=zab (HB.o.step hrl (zaf _ hb8) hs8 (fun hb=>hb));clear hs hb8;go_wp2_with fail
       refine (zaW hs8 ⟨#[59]⟩ (by simp)).mono ?_;rintro e w4 ⟨rfl,hs4,hg4⟩;rw[show Th.want (ByteArray.mk #[59]).data.toList s1=s1.adv from Hw.o]at hs4;have HB4:=zab (HB8.o.step hrl hg4 hs4 (fun _=>zhZ (zlc H5.o)));obtain ⟨nvs,bvs,hpl1,hpl2,hrow,hrep⟩:=HB4.o.parts;have hsh:=zan (Row.zaE hrow);rcases hsh with rfl|⟨gs,caps,rfl⟩
       ·exfalso;rcases hrow.2 with ⟨-,h0⟩|⟨_,_,_,h0,_⟩
        ·exact hne (zyj.1 h0)
        ·cases h0
       ·have hgs:=(hrow.lt gs rfl);have HR:=zab (And.intro (And.intro hpl1 hpl2) (And.intro hrow hrep));have hS4:=zab (zdh HB4.o.blk 1 (v:=.slice (some ⟨gs,0,none⟩) l.length caps) rfl);have h4c:=hS4.o.1;have h4f:=hS4.o.2;have hl4:=HB4.o.blk.lt;clear hs8 hs4 hg4 hpl1 hpl2 hrow hrep;go_wp2_with fail
        go_region_law (first
         |(refine step_append_lies _ (by rfl) _ _ _ (by rfl) (w1.heap.size+1) 240 i0 _ 3 48 Tryz.underlying171 HI.o HZ.o.1 HZ.o.2.1 HZ.o.2.2 rfl (by omega) (.slice (some ⟨gs,0,none⟩) l.length caps) l.length (za7 l nvs bvs) (by rfl) (hrow5.alloc _) ⟨w5.heap.size,0,none⟩ 1 1 [.int .i64 q5.1.1,nv5,v5] (by rfl) (by rfl) (World.news_of_block (cs:=#[.int .i64 q5.1.1,nv5,v5]) (t:=240) (fr:=(0,0)) (heap_alloc_new w5 _)) (onea hone1 hone) (by omega) (by unfold maxLen;omega) (by omega) (by simp;omega) (w5.heap.size+1) (by simp) ?_;intro g cap w6 hown hgrow hat hlt;have h6:=zab ((H5h.o.alloc _).gb hgrow (by simp[Value.ownBlock];omega));have h6c:=h6.o.1;have h6f:=h6.o.2)
         |(go_simp;go_wp2_with (go_at_call 250;refine (CON2.o _ ?_).mono ?_;exact HB4.o.rs.drew;rintro e w5 ⟨nv5,v5,rfl,hnv,hgot,hs5,hg5⟩;have hone:=hgot.one.one;have hone1:=row_one hnv;have hsz5:w1.heap.size<w5.heap.size:=(by have:=hg5.size;simp at this;omega);have Hnv:=zab hnv;have Hgot:=zab hgot;have Hs5:=zab hs5;have HG5:=zab hg5;have H5h:=zab (hS4.o.drew.gb hg5 (by simp;omega));have h5c:=H5h.o.1;have h5f:=H5h.o.2;have hrow5:=HR.o.2.1.drew.kept hg5 (zdk HR.o.2.1 (by omega));clear hgot hs5 hnv)))
        all_goals
         go_wp2_with fail
         go_roundg g0
         case measure=>omega
         case rel=>
          exact ⟨_,_,_,_,_,HO.o,HB4.o.add HR.o.1.1 HR.o.1.2 HR.o.2.1 HR.o.2.2 hrl htl Hnv.o Hgot.o Hs5.o HG5.o hown hgrow hat (zfi hk HQ5.o),by simp,by simp;omega,HQ6.o⟩
theorem zr3(l:List Th.Tok):∀ u∈zaj l,u.oneCell'=true:=by
 intro u hu;simp only[zaj,List.mem_flatMap,zbL]at hu;obtain ⟨t,_,ht⟩:=hu;simp only[zyk,zyU,or_false]at ht;rcases ht with rfl|rfl <;> rfl
theorem zkC(l:List Th.Tok):(zaj l).length=l.length*2:=by
 induction l with
 |nil=>rfl
 |cons t l ih=>
  rw[show zaj (t::l)=zbL t++zaj l from rfl,zxP,ih];simp only[zbL,zx3,zyi];omega
theorem zud(h:RS w r tb T st):(Th.zax st).1.length<=100000:=by
 have:=zs7 h;unfold Th.zax;split
 ·exact zxN (List.takeWhile_prefix _).length_le this
 ·simp
structure Lam (w wr:World) (r tb eb:Nat) (T:List Th.Tok) (l:List Th.Tok) (s1:Th.St) (sv:Value):Prop where
 blk:Blk wr eb [sv,.nilIface] 226
 lo:w.heap.size<=eb
 rs:RS wr r tb T s1
 gb:w.grownBy wr (some r)
 row:Row (fun b=>zat w b/\b≠eb) wr 88 2 sv l.length (zaj l)
theorem Lam.step(hB:Lam w wr r tb eb T l s1 sv)(hrl:r<w.heap.size)(hg:wr.grownBy w' (some r))(hs:RS w' r tb T s2):Lam w w' r tb eb T l s2 sv:=by
 have hlo:=hB.lo;exact ⟨hB.blk.grown hg (by simp;omega),hlo,hs,zad hB.gb hg,hB.row.gb hg (fun k hk h=>by cases hk;simp only[zat]at h;omega)⟩
theorem zwb(hB:Lam w wr r tb eb T l s1 sv)(hrl:r<w.heap.size)(hg:wr.grownBy w' (some r))(hgot:Got (zat wr) w' v e s2):
  Got (zat w) (w'.setCell ⟨eb,1,none⟩ v) (.iface 226 (.agg #[sv,v])) (Th.mkFun l e) s2:=by
 have hlo:=hB.lo;have heb:=hB.blk.lt;have hz:=hB.gb.size;refine ⟨zbY _ _,fun hbad=>?_⟩;obtain ⟨n2,hn2⟩:=hgot.rep hbad;have hset:=zaS w' eb 1 v;refine ⟨n2+1,.inr (.inr (.inr (.inl ⟨rfl,sv,v,e,rfl,rfl,?_,?_⟩)))⟩
 ·exact ((hB.row.gb hg (fun k hk h=>by cases hk;simp only[zat]at h;omega)).gb hset (fun k hk h=>by cases hk;exact h.2 rfl)).mono (fun k _ h=>h.1)
 ·exact (hn2.gb hset (fun k hk=>by cases hk;simp only[zat];omega)).mono (fun k _ h=>by simp only[zat]at *;omega)
theorem zp1{base:Nat}{e:TypeId}{size n:Nat}{xs:List Value}(h:w.ownsRow base e size v n xs)(hn:0<n):∃ g cap,v=.slice (some ⟨g,0,none⟩) n cap:=by
 rcases h.2 with ⟨_,h0⟩|⟨g,cap,cur,h,_⟩
 ·omega
 ·exact ⟨g,cap,h⟩
theorem zqh{w1 W0:World}{m:Nat}{x:Th.Tok}(hB:Blk W0 (w1.heap.size+1) [.slice (some ⟨w1.heap.size,0,none⟩) 1 1,.nilIface] 226)(hz:w.heap.size<=w1.heap.size)(hrl:r<w.heap.size)(htl:tb<w.heap.size)(hG0:w.grownBy W0 (some r))(hs2:RS w2 r tb T s2)(hg2:W0.drew.grownBy w2 (some r))(hown:w3.ownsRow w1.heap.size 88 2 (.slice (some ⟨g,0,none⟩) m cap) m (zaj (x::l)))(hm:m=(x::l).length)(hgrow:w2.grownBy w3 (some w1.heap.size))(hat:g=w1.heap.size\/g=w2.heap.size):
  Lam w (w3.setCell ⟨w1.heap.size+1,0,none⟩ (.slice (some ⟨g,0,none⟩) m cap)) r tb (w1.heap.size+1) T (x::l) s2 (.slice (some ⟨g,0,none⟩) m cap):=by
 have hlt:=hB.lt;have hz2:W0.heap.size<=w2.heap.size:=hg2.size;have hge:g≠w1.heap.size+1:=by omega
 have hset:=zaS w3 (w1.heap.size+1) 0 (.slice (some ⟨g,0,none⟩) m cap);refine ⟨?_,by omega,?_,?_,?_,?_⟩
 ·exact ((hB.drew.grown hg2 (by simp;omega)).grown hgrow (by simp)).set 0 _
 ·exact (hs2.gb hgrow (by simp;omega) (by simp;omega)).set _ _ _ (by omega) (by omega)
 ·refine zap ?_ _ _ (by simp;omega);have h1:=zad (zad hG0 (zbO W0 _)) hg2;exact ⟨hgrow.os.trans h1.os,hgrow.tape.trans h1.tape,hgrow.output.trans h1.output,zxN h1.size hgrow.size,
   fun k hk hr=>(hgrow.block k (zxO hk h1.size) (by simp;omega)).trans (h1.block k hk hr)⟩
 ·rw[<-hm];exact zaY (hown.kept hset (by simp[Value.ownBlock];omega)) (zx1 _)
 ·intro k hk;simp only[Value.ownBlock,zxL]at hk;subst hk;have:=(hown.lt g rfl).1;simp only[zat];omega
theorem zso(hx:zr0 ex)(hq:Th.zt3 ex c st=some q)(h:RS w r tb T st):
  Calls Tryz.prog 195 #[.pointer (some ⟨r,0,none⟩),.bool c] w fun en w'=>Reads w r tb T q.1 q.2 en w':=by
 have hrl:=h.lt;have htl:=h.tlt;obtain ⟨i0,hi0,hz0,hz1,hz2⟩:=info_parts zqc;have HI:=zab hi0;clear hi0;have HZ:=zab (And.intro hz0 (And.intro hz1 hz2));clear hz0 hz1 hz2;unfold Th.zt3 at hq;simp only[zxM,zxL]at hq;obtain ⟨q1,hq1,rfl⟩:=hq;generalize hx0:Th.zaK st=xs at hq1 ⊢;generalize hl0:Th.zax xs.2=ln at hq1 ⊢;have HQ1:=zab hq1;have HX0:=zab hx0;have HL0:=zab hl0;clear hq1 hx0 hl0;go_enter Tryz.func195,Tryz.ntmps195
 go_wp2_with fail
 refine (zgH h).mono ?_;rintro e w1 ⟨rfl,hs1,hg1⟩;rw[HX0.o]at hs1 ⊢;have hz:=hg1.size;have hrow0:=World.ownsRow_lit (base:=w1.heap.size) (e:=88) (size:=2) w1 #[.string ⟨xs.1.s.toArray⟩,.int .i64 xs.1.at_] 1 (zxJ _) (by unfold maxLen;omega) rfl;have B0x:=Blk.new (w1.alloc (.cells #[.string ⟨xs.1.s.toArray⟩,.int .i64 xs.1.at_] 88)) [.slice (some ⟨w1.heap.size,0,none⟩) 1 1,.nilIface] 226;rw[World.size_alloc]at B0x;have B0:=zab B0x;clear B0x;have Hs0:=zab ((hs1.alloc (.cells #[.string ⟨xs.1.s.toArray⟩,.int .i64 xs.1.at_] 88)).alloc (.cells #[.slice (some ⟨w1.heap.size,0,none⟩) 1 1,.nilIface] 226));have HG0:=zab (zad (zad hg1 (zag w1 (.cells #[.string ⟨xs.1.s.toArray⟩,.int .i64 xs.1.at_] 88) (some r))) (zag _ (.cells #[.slice (some ⟨w1.heap.size,0,none⟩) 1 1,.nilIface] 226) (some r)));have HR0:=zab (hrow0.alloc (.cells #[.slice (some ⟨w1.heap.size,0,none⟩) 1 1,.nilIface] 226));have hfew:=zud hs1;rw[HL0.o]at hfew;have CON:=zab (fun (W:World) (hW:RS W r tb T xs.2)=>zlH hW);clear h hs1 hg1 hrow0;have hS0:Hid (ztW _ (w1.heap.size+1) 0 (.slice (some ⟨w1.heap.size,0,none⟩) 1 1)):=zab (zdh B0.o 0 (v:=.slice (some ⟨w1.heap.size,0,none⟩) 1 1) rfl);go_wp2_with fail
 go_cut [11] (fun _ wc=>∃ sv,Lam w wc r tb (w1.heap.size+1) T (xs.1::ln.1) ln.2 sv)
 case first=>
  by_cases hl:ln.1=[]
  ·have Hl:=zab hl;clear hl
   go_region_law (first
    |(go_simp;go_wp2_with (go_at_call 116;refine (CON.o _ ?_).mono ?_;exact Hs0.o.drew;rintro e w2 ⟨nv,rfl,hnil,hrow2,hs2,hg2⟩;rw[HL0.o]at hnil hs2;obtain rfl:=hnil Hl.o;have hsz2:w1.heap.size+1<w2.heap.size:=(by have:=hg2.size;simp at this;omega);have Hs2:=zab hs2;have HG2:=zab hg2;have H2:=zab (hS0.o.drew.gb hg2 (by simp;omega));have h2c:=H2.o.1;have h2f:=H2.o.2;clear hs2 hnil hrow2)))
   all_goals
    go_wp2_with fail
    go_meet
    case rel=>
     have hr3:w2.ownsRow w1.heap.size 88 2 (.slice (some ⟨w1.heap.size,0,none⟩) 1 1) 1 (zaj (xs.1::[])):=HR0.o.drew.kept HG2.o (zdk HR0.o (by omega));have hfin:=zqh B0.o hz hrl htl HG0.o Hs2.o HG2.o hr3 rfl (zcR w2 _) (.inl rfl);rw[<-Hl.o]at hfin;exact ⟨_,hfin⟩
  ·have hl1:0<ln.1.length:=zyz.2 hl;have Hl:=zab hl;clear hl
   go_region_law (first
    |(refine step_append_lies _ (by rfl) _ _ _ (by rfl) w1.heap.size 88 i0 _ 2 24 Tryz.underlying89 HI.o HZ.o.1 HZ.o.2.1 HZ.o.2.2 rfl (by omega) (.slice (some ⟨w1.heap.size,0,none⟩) 1 1) 1 (zbL xs.1) (by rfl) hrow3 ⟨g2,0,none⟩ ln.1.length c2 (zaj ln.1) (by rfl) (zkC _) (hrow2.cells rfl) (zr3 _) (by omega) (by unfold maxLen;omega) (by omega) (by omega) w2.heap.size rfl ?_;intro g cap w3 hown hgrow hat hlt;have h3:=zab (H2.o.gb hgrow (by simp[Value.ownBlock]));have h3c:=h3.o.1;have h3f:=h3.o.2)
    |(go_simp;go_wp2_with (go_at_call 116;refine (CON.o _ ?_).mono ?_;exact Hs0.o.drew;rintro e w2 ⟨nv,rfl,hnil,hrow2,hs2,hg2⟩;rw[HL0.o]at hrow2 hs2;obtain ⟨g2,c2,rfl⟩:=zp1 hrow2 hl1;have hsz2:w1.heap.size+1<w2.heap.size:=(by have:=hg2.size;simp at this;omega);have Hs2:=zab hs2;have HG2:=zab hg2;have H2:=zab (hS0.o.drew.gb hg2 (by simp;omega));have h2c:=H2.o.1;have h2f:=H2.o.2;have hrow3:=HR0.o.drew.kept hg2 (zdk HR0.o (by omega));clear hs2 hnil)))
   all_goals
    go_wp2_with fail
    go_meet
    case rel=>
     refine ⟨_,zqh B0.o hz hrl htl HG0.o Hs2.o HG2.o hown (by simp;omega) hgrow ?_⟩;rcases hat with h|h
     ·left;simpa [Value.ownBlock] using h.symm
     ·exact .inr h
 case rest=>
  obtain ⟨sv0,hB1⟩:=hcut;have HB1:=zab hB1;have hs:=hB1.rs;clear hB1;go_wp2_with fail
  refine (zaW hs ⟨#[46]⟩ (by simp)).mono ?_;rintro e w5 ⟨rfl,hs5,hg5⟩;have HB5:=zab (HB1.o.step hrl hg5 hs5);clear hs hg5;go_wp2_with fail
  refine (hx _ _ _ _ _ _ _ HQ1.o hs5).mono ?_;rintro en w6 ⟨v,rfl,hgot,hs6,hg6⟩;have hB6:=HB5.o.blk.grown hg6 (by simp;omega);have d0:=hB6.cell 0;have d1:=hB6.cell 1;have f1:=hB6.frozen 1;simp at d0 d1;have FIN:=zab (zwb HB5.o hrl hg6 hgot);have HG6:=zab (zap (zad HB5.o.gb hg6) ⟨w1.heap.size+1,1,none⟩ v (by simp;omega));have Hs6:=zab (hs6.set (w1.heap.size+1) 1 v (by omega) (by omega));have ho:=hgot.one;have hsh:=zan HB5.o.row;clear hs5 hgot hs6 hg6 hB6;rcases hsh with rfl|⟨gs,caps,rfl⟩ <;> rcases ho.shape with rfl|⟨t1,x1,rfl⟩
  all_goals
   clear ho;go_wp2_with fail
   go_ret
   exact ⟨_,rfl,FIN.o,Hs6.o,HG6.o⟩
end Go.Proofs.YtgahgkddaljmkaaGreatDoor
