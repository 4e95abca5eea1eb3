/- Par3 .. Par8 -/
import Derived.Test.YtgahgkddaljmkaaGreatDoorW10
set_option maxRecDepth 100000
set_option maxHeartbeats 4000000
namespace Go.Proofs.YtgahgkddaljmkaaGreatDoor
open Tryz
open Go.RowKit
attribute [local go_sem] zcZ zc0 zc1
variable {st:Th.St}
theorem zhF(h:Th.zcI st=true):st.bad=none:=by
 obtain ⟨rest,bad⟩:=st;cases bad with
 |some p=>simp[Th.zcI,Th.St.kind,Th.St.is]at h
 |none=>rfl
variable {S:Nat->Prop}
variable {w:World}
variable {n:Nat}
theorem zv3{m:Nat}{v1 v2:Value}{e1 e2:Th.Ex}(h1:Rep S w n v1 e1)(h2:Rep S w m v2 e2):Rep S w (n+m+1) (.iface 163 (.agg #[v1,v2])) (Th.zch e1 e2):=
 .inr (.inr (.inr (.inr (.inl ⟨rfl,v1,v2,e1,e2,rfl,rfl,h1.le (by omega),h2.le (by omega)⟩))))
theorem ztV{m:Nat}{v1 v2:Value}{e1 e2:Th.Ex}(t:Th.Tok)(h1:Rep S w n v1 e1)(h2:Rep S w m v2 e2):Rep S w (n+m+1) (.iface 166 (.agg #[.string ⟨t.s.toArray⟩,v1,v2])) (Th.ziR t e1 e2):=
 .inr (.inr (.inr (.inr (.inr (.inl ⟨rfl,v1,v2,e1,e2,rfl,rfl,h1.le (by omega),h2.le (by omega)⟩)))))
variable {ex:Th.Rd}
variable {r tb:Nat}
variable {T:List Th.Tok}
variable {q:Th.Ex × Th.St}
theorem zxd(hx:zso ex){k:Nat}(hq:Th.zhP ex k st=some q)(h:RS w r tb T st):
  Calls prog 281 #[.pointer (some ⟨r,0,none⟩)] w fun en w'=>Reads w r tb T q.1 q.2 en w':=by
 have bd:=h.lt;have cu:=h.tlt;unfold Th.zhP at hq;simp only[zyQ]at hq;obtain ⟨q1,cF,bC⟩:=hq;have HQ:=zab bC;clear bC;go_enter func281,ntmps281
 go_wp2_with fail
 refine (zsA hx cF h).mono ?_;rintro en w1 ⟨v,rfl,aq,aW,bw⟩;have cj:=zab aq;have gF:=zab aW;have lW:=zab bw;have hc:=aq.one.cells;clear aq aW bw h cF;go_wp2_with fail
 go_loopg [3] k (fun g v wr=>∃ e1 s1,Got (zat w) wr v e1 s1/\RS wr r tb T s1/\w.grownBy wr (some r)/\Th.zcV ex g e1 s1=some q)
 case atStart=>exact ⟨q1.1,q1.2,cj.o,gF.o,lW.o,HQ.o⟩
 case round=>
  obtain ⟨e1,s1,aq,hs,hg,hp⟩:=hrel;have xm:=aq.one.cells;have iz:=zab aq;have Hs:=zab hs;have Hg:=zab hg;clear aq hg hc;cases gk with
  |zero=>simp[Th.zcV]at hp
  |succ g=>
   rw[Th.zcV]at hp;cases hb:Th.zcI s1
   ·rw[hb]at hp;simp only[zzw,if_false,zyP]at hp;subst hp;have Hb:=zab hb;clear hb;go_wp2_with fail
    refine (zeI hs).mono ?_;rintro e w2 ⟨rfl,aw⟩;rw[Hb.o];have cO:=zab aw;clear hs aw;go_wp2_with fail
    go_ret
    exact ⟨u3,rfl,iz.o.gb (zaf none cO.o) (by simp),Hs.o.below cO.o,zad Hg.o (zaf _ cO.o)⟩
   ·rw[hb]at hp;simp only[if_true,zyQ]at hp;obtain ⟨q2,bC,fB⟩:=hp;have mE:=zab fB;have jR:=zab bC;have Hb:=zab hb;clear hb fB bC;go_wp2_with fail
    refine (zeI hs).mono ?_;rintro e w2 ⟨rfl,aw⟩;rw[Hb.o];have aI:=hs.below aw;have cO:=zab aw;clear hs aw;go_wp2_with fail
    refine (zsA hx jR.o aI).mono ?_;rintro en w3 ⟨v2,rfl,cr,bP,aS⟩;have jb:=cr.one;have nU:=iz.o.one;have fF:=zab cr;have fG:=zab bP;have ej:=zab aS;clear aI cr bP aS xm;rcases nU.shape with rfl|⟨t3,x3,rfl⟩ <;> rcases jb.shape with rfl|⟨t2,x2,rfl⟩
    all_goals
     clear jb nU;go_wp2_with fail
     go_roundg g
     case measure=>omega
     case rel=>
      have hz:=(zad Hg.o (zaf (some r) cO.o)).size;refine ⟨Th.zch e1 q2.1,q2.2,⟨zb0 _ _,fun aQ=>?_⟩,fG.o,zad (zad Hg.o (zaf _ cO.o)) ej.o,mE.o⟩;obtain ⟨n1,cR⟩:=((iz.o.gb (zaf none cO.o) (by simp)).gb ej.o (zur bd)).rep (zhF Hb.o);obtain ⟨n2,eY⟩:=(fF.o.mono (S':=zat w) (fun k _ hk=>zyR hz hk)).rep aQ;exact ⟨_,zv3 cR eY⟩
def zkx (f:Nat) (sub:Th.St->Option (Th.Ex × Th.St)):Prop:=∀ (st:Th.St) (q:Th.Ex × Th.St) (w:World) (r tb:Nat) (T:List Th.Tok),sub st=some q->RS w r tb T st ->
 Calls prog f #[.pointer (some ⟨r,0,none⟩)] w fun en w'=>Reads w r tb T q.1 q.2 en w'
variable {sub:Th.St->Option (Th.Ex × Th.St)}
variable {v:Value}
variable {e:Th.Ex}
variable {B:Nat->Prop}
theorem zgb(hx:zkx 281 sub)(hB:¬ B r)(aH:st.hd.s≠[])(hi:st.bad=none)(hv:Got B w v e st)(hq:sub st.adv=some q)(h:RS w r tb T st):
  Calls prog 253 #[.pointer (some ⟨r,0,none⟩),v,.func (.func 281) #[.pointer (some ⟨r,0,none⟩)] #[]] w fun en w'=>∃ v2,en=.returned v2/\Got (fun b=>B b\/zat w b) w' v2 (Th.ziR st.hd e q.1) q.2/\RS w' r tb T q.2/\w.grownBy w' (some r):=by
 have bd:=h.lt;obtain ⟨t,tk,ti,th,tm,tc⟩:=zhs h;have jd:=th hi;rw[jd]at aH ⊢;have Hw:Hid (Th.want t.s st=st.adv):=zab (by rw[Th.want,ti t.s aH];simp);have qK:=zab aH;have HH:=zab h;have HV:=zab hv;have HQ:=zab hq;have Hi:=zab hi;have HB:=zab hB;have ja:=hv.one;clear tk ti th tm jd aH hv hq hi hB;rcases ja.shape with rfl|⟨t1,x1,rfl⟩
 all_goals
  clear ja;go_enter func253,ntmps253
  go_wp2_with fail
  refine tc.mono ?_;rintro en w1 ⟨rfl,hb⟩;have aW:=h.below hb;have Hb:=zab hb;clear tc hb;go_wp2_with fail
  refine (zaX aW ⟨t.s.toArray⟩ (by simpa using qK.o)).mono ?_;rintro en w2 ⟨rfl,aI,aF⟩;rw[show Th.want (ByteArray.mk t.s.toArray).data.toList st=st.adv from Hw.o]at aI;have eS:=zab aI;have ix:=zab (zad (zaf _ Hb.o) aF);clear aW aI aF h;go_wp2_with fail
  refine (hx _ _ _ _ _ _ HQ.o eS.o).mono ?_;rintro en w3 ⟨v2,rfl,cr,bP,aS⟩;have fF:=zab cr;have fG:=zab bP;have ej:=zab (zad ix.o aS);have jb:=cr.one;clear cr bP aS;rcases jb.shape with rfl|⟨t2,x2,rfl⟩
  all_goals
   clear jb;go_wp2_with fail
   go_ret
   refine ⟨_,rfl,⟨zb0 _ _,fun aQ=>?_⟩,fG.o,ej.o⟩;obtain ⟨n1,cR⟩:=(HV.o.gb ej.o (fun k hk=>by cases hk;exact HB.o)).rep Hi.o;obtain ⟨n2,eY⟩:=fF.o.rep aQ;exact ⟨_,ztV t (cR.mono (fun k _ hk=>.inl hk)) (eY.mono (fun k _ hk=>.inr (zyR ix.o.size hk)))⟩
theorem zdY(hx:zkx 273 sub)(hB:¬ B r)(aH:st.hd.s≠[])(hi:st.bad=none)(hv:Got B w v e st)(hq:sub st.adv=some q)(h:RS w r tb T st):
  Calls prog 253 #[.pointer (some ⟨r,0,none⟩),v,.func (.func 273) #[.pointer (some ⟨r,0,none⟩)] #[]] w fun en w'=>∃ v2,en=.returned v2/\Got (fun b=>B b\/zat w b) w' v2 (Th.ziR st.hd e q.1) q.2/\RS w' r tb T q.2/\w.grownBy w' (some r):=by
 have bd:=h.lt;obtain ⟨t,tk,ti,th,tm,tc⟩:=zhs h;have jd:=th hi;rw[jd]at aH ⊢;have Hw:Hid (Th.want t.s st=st.adv):=zab (by rw[Th.want,ti t.s aH];simp);have qK:=zab aH;have HH:=zab h;have HV:=zab hv;have HQ:=zab hq;have Hi:=zab hi;have HB:=zab hB;have ja:=hv.one;clear tk ti th tm jd aH hv hq hi hB;rcases ja.shape with rfl|⟨t1,x1,rfl⟩
 all_goals
  clear ja;go_enter func253,ntmps253
  go_wp2_with fail
  refine tc.mono ?_;rintro en w1 ⟨rfl,hb⟩;have aW:=h.below hb;have Hb:=zab hb;clear tc hb;go_wp2_with fail
  refine (zaX aW ⟨t.s.toArray⟩ (by simpa using qK.o)).mono ?_;rintro en w2 ⟨rfl,aI,aF⟩;rw[show Th.want (ByteArray.mk t.s.toArray).data.toList st=st.adv from Hw.o]at aI;have eS:=zab aI;have ix:=zab (zad (zaf _ Hb.o) aF);clear aW aI aF h;go_wp2_with fail
  refine (hx _ _ _ _ _ _ HQ.o eS.o).mono ?_;rintro en w3 ⟨v2,rfl,cr,bP,aS⟩;have fF:=zab cr;have fG:=zab bP;have ej:=zab (zad ix.o aS);have jb:=cr.one;clear cr bP aS;rcases jb.shape with rfl|⟨t2,x2,rfl⟩
  all_goals
   clear jb;go_wp2_with fail
   go_ret
   refine ⟨_,rfl,⟨zb0 _ _,fun aQ=>?_⟩,fG.o,ej.o⟩;obtain ⟨n1,cR⟩:=(HV.o.gb ej.o (fun k hk=>by cases hk;exact HB.o)).rep Hi.o;obtain ⟨n2,eY⟩:=fF.o.rep aQ;exact ⟨_,ztV t (cR.mono (fun k _ hk=>.inl hk)) (eY.mono (fun k _ hk=>.inr (zyR ix.o.size hk)))⟩
theorem zg5(hx:zkx 252 sub)(hB:¬ B r)(aH:st.hd.s≠[])(hi:st.bad=none)(hv:Got B w v e st)(hq:sub st.adv=some q)(h:RS w r tb T st):
  Calls prog 253 #[.pointer (some ⟨r,0,none⟩),v,.func (.func 252) #[.pointer (some ⟨r,0,none⟩)] #[]] w fun en w'=>∃ v2,en=.returned v2/\Got (fun b=>B b\/zat w b) w' v2 (Th.ziR st.hd e q.1) q.2/\RS w' r tb T q.2/\w.grownBy w' (some r):=by
 have bd:=h.lt;obtain ⟨t,tk,ti,th,tm,tc⟩:=zhs h;have jd:=th hi;rw[jd]at aH ⊢;have Hw:Hid (Th.want t.s st=st.adv):=zab (by rw[Th.want,ti t.s aH];simp);have qK:=zab aH;have HH:=zab h;have HV:=zab hv;have HQ:=zab hq;have Hi:=zab hi;have HB:=zab hB;have ja:=hv.one;clear tk ti th tm jd aH hv hq hi hB;rcases ja.shape with rfl|⟨t1,x1,rfl⟩
 all_goals
  clear ja;go_enter func253,ntmps253
  go_wp2_with fail
  refine tc.mono ?_;rintro en w1 ⟨rfl,hb⟩;have aW:=h.below hb;have Hb:=zab hb;clear tc hb;go_wp2_with fail
  refine (zaX aW ⟨t.s.toArray⟩ (by simpa using qK.o)).mono ?_;rintro en w2 ⟨rfl,aI,aF⟩;rw[show Th.want (ByteArray.mk t.s.toArray).data.toList st=st.adv from Hw.o]at aI;have eS:=zab aI;have ix:=zab (zad (zaf _ Hb.o) aF);clear aW aI aF h;go_wp2_with fail
  refine (hx _ _ _ _ _ _ HQ.o eS.o).mono ?_;rintro en w3 ⟨v2,rfl,cr,bP,aS⟩;have fF:=zab cr;have fG:=zab bP;have ej:=zab (zad ix.o aS);have jb:=cr.one;clear cr bP aS;rcases jb.shape with rfl|⟨t2,x2,rfl⟩
  all_goals
   clear jb;go_wp2_with fail
   go_ret
   refine ⟨_,rfl,⟨zb0 _ _,fun aQ=>?_⟩,fG.o,ej.o⟩;obtain ⟨n1,cR⟩:=(HV.o.gb ej.o (fun k hk=>by cases hk;exact HB.o)).rep Hi.o;obtain ⟨n2,eY⟩:=fF.o.rep aQ;exact ⟨_,ztV t (cR.mono (fun k _ hk=>.inl hk)) (eY.mono (fun k _ hk=>.inr (zyR ix.o.size hk)))⟩
end Go.Proofs.YtgahgkddaljmkaaGreatDoor
namespace Go.Proofs.YtgahgkddaljmkaaGreatDoor
open Tryz
open Go.RowKit
variable {st:Th.St}
theorem zry{x:List UInt8}(h:st.is x=true):st.hd.s=x:=by
 simp[Th.St.is]at h;exact h.2
variable {sub:Th.St->Option (Th.Ex × Th.St)}
theorem zrN(hx:zkx 281 sub)(k:Nat):zkx 273 (fun st=>(sub st).bind fun r=>Th.zku sub [42] [47] k r.1 r.2):=by
 intro st q w r tb T hq h;have bd:=h.lt;have cu:=h.tlt;simp only[zyQ]at hq;obtain ⟨q1,cF,bC⟩:=hq;have HQ:=zab bC;clear bC;go_enter func273,ntmps273
 go_wp2_with fail
 refine (hx _ _ _ _ _ _ cF h).mono ?_;rintro en w1 ⟨v,rfl,aq,aW,bw⟩;have cj:=zab aq;have gF:=zab aW;have lW:=zab bw;have hc:=aq.one.cells;clear aq aW bw h cF;go_wp2_with fail
 go_loopg [3] k (fun g v wr=>∃ e1 s1,Got (zat w) wr v e1 s1/\RS wr r tb T s1/\w.grownBy wr (some r)/\Th.zku sub [42] [47] g e1 s1=some q)
 case atStart=>exact ⟨q1.1,q1.2,cj.o,gF.o,lW.o,HQ.o⟩
 case round=>
  obtain ⟨e1,s1,aq,hs,hg,hp⟩:=hrel;have iz:=zab aq;have Hs:=zab hs;have Hg:=zab hg;have hz:=hg.size;clear aq hg hc;cases gk with
  |zero=>simp[Th.zku]at hp
  |succ g=>
   rw[Th.zku]at hp;cases ha:s1.is [42]
   ·have Ha:=zab ha;cases hb:s1.is [47]
    ·rw[ha,hb]at hp;simp only[zAm,zzw,if_false,zyP]at hp;subst hp;have Hb:=zab hb;have xm:=iz.o.one.cells;clear ha hb;go_wp2_with fail
     refine (zbV hs ⟨#[42]⟩ (by simp)).mono ?_;rintro en w2 ⟨rfl,aw⟩;rw[show s1.is (ByteArray.mk #[42]).data.toList=false from Ha.o];have aI:=hs.below aw;have cO:=zab aw;clear hs aw;go_wp2_with fail
     refine (zbV aI ⟨#[47]⟩ (by simp)).mono ?_;rintro en w3 ⟨rfl,bD⟩;rw[show s1.is (ByteArray.mk #[47]).data.toList=false from Hb.o];have cG:=zab (cO.o.trans (bD.mono cO.o.size));clear aI bD;go_wp2_with fail
     go_ret
     exact ⟨u3,rfl,iz.o.gb (zaf none cG.o) (by simp),Hs.o.below cG.o,zad Hg.o (zaf _ cG.o)⟩
    ·rw[ha,hb]at hp;simp only[zAu,if_true,zyQ]at hp;obtain ⟨q2,bC,fB⟩:=hp;have mE:=zab fB;have jR:=zab bC;have Hb:=zab hb;clear ha hb fB bC;go_wp2_with fail
     refine (zbV hs ⟨#[42]⟩ (by simp)).mono ?_;rintro en w2 ⟨rfl,aw⟩;rw[show s1.is (ByteArray.mk #[42]).data.toList=false from Ha.o];have aI:=hs.below aw;have cO:=zab aw;clear hs aw;go_wp2_with fail
     refine (zbV aI ⟨#[47]⟩ (by simp)).mono ?_;rintro en w3 ⟨rfl,bD⟩;rw[show s1.is (ByteArray.mk #[47]).data.toList=true from Hb.o];have cG:=zab (cO.o.trans (bD.mono cO.o.size));clear aI bD;go_wp2_with fail
     refine (zgb hx (B:=zat w) (fun hr=>by simp only[zat]at hr;omega) (by rw[zry Hb.o];simp) (zie Hb.o) (iz.o.gb (zaf none cG.o) (by simp)) jR.o (Hs.o.below cG.o)).mono ?_;rintro en w4 ⟨v4,rfl,aZ,bV,bM⟩;have dv:=zab aZ;have gh:=zab bV;have gN:=zab bM;have jj:=aZ.one.cells;clear aZ bV bM;go_wp2_with fail
     go_roundg g
     case measure=>omega
     case rel=>
      refine ⟨_,q2.2,dv.o.mono (fun b _ hb=>?_),gh.o,zad (zad Hg.o (zaf _ cG.o)) gN.o,mE.o⟩;rcases hb with hb|hb
      ·exact hb
      ·have:=cG.o.size;simp only[zat]at hb ⊢;omega
   ·have Ha:=zab ha;rw[ha]at hp;simp only[zAv,if_true,zyQ]at hp;obtain ⟨q2,bC,fB⟩:=hp;have mE:=zab fB;have jR:=zab bC;clear ha fB bC;go_wp2_with fail
    refine (zbV hs ⟨#[42]⟩ (by simp)).mono ?_;rintro en w2 ⟨rfl,bD⟩;rw[show s1.is (ByteArray.mk #[42]).data.toList=true from Ha.o];have cG:=zab bD;clear hs bD;go_wp2_with fail
    refine (zgb hx (B:=zat w) (fun hr=>by simp only[zat]at hr;omega) (by rw[zry Ha.o];simp) (zie Ha.o) (iz.o.gb (zaf none cG.o) (by simp)) jR.o (Hs.o.below cG.o)).mono ?_;rintro en w4 ⟨v4,rfl,aZ,bV,bM⟩;have dv:=zab aZ;have gh:=zab bV;have gN:=zab bM;have jj:=aZ.one.cells;clear aZ bV bM;go_wp2_with fail
    go_roundg g
    case measure=>omega
    case rel=>
     refine ⟨_,q2.2,dv.o.mono (fun b _ hb=>?_),gh.o,zad (zad Hg.o (zaf _ cG.o)) gN.o,mE.o⟩;rcases hb with hb|hb
     ·exact hb
     ·have:=cG.o.size;simp only[zat]at hb ⊢;omega
theorem zyC(hx:zkx 273 sub)(k:Nat):zkx 252 (fun st=>(sub st).bind fun r=>Th.zku sub [43] [45] k r.1 r.2):=by
 intro st q w r tb T hq h;have bd:=h.lt;have cu:=h.tlt;simp only[zyQ]at hq;obtain ⟨q1,cF,bC⟩:=hq;have HQ:=zab bC;clear bC;go_enter func252,ntmps252
 go_wp2_with fail
 refine (hx _ _ _ _ _ _ cF h).mono ?_;rintro en w1 ⟨v,rfl,aq,aW,bw⟩;have cj:=zab aq;have gF:=zab aW;have lW:=zab bw;have hc:=aq.one.cells;clear aq aW bw h cF;go_wp2_with fail
 go_loopg [3] k (fun g v wr=>∃ e1 s1,Got (zat w) wr v e1 s1/\RS wr r tb T s1/\w.grownBy wr (some r)/\Th.zku sub [43] [45] g e1 s1=some q)
 case atStart=>exact ⟨q1.1,q1.2,cj.o,gF.o,lW.o,HQ.o⟩
 case round=>
  obtain ⟨e1,s1,aq,hs,hg,hp⟩:=hrel;have iz:=zab aq;have Hs:=zab hs;have Hg:=zab hg;have hz:=hg.size;clear aq hg hc;cases gk with
  |zero=>simp[Th.zku]at hp
  |succ g=>
   rw[Th.zku]at hp;cases ha:s1.is [43]
   ·have Ha:=zab ha;cases hb:s1.is [45]
    ·rw[ha,hb]at hp;simp only[zAm,zzw,if_false,zyP]at hp;subst hp;have Hb:=zab hb;have xm:=iz.o.one.cells;clear ha hb;go_wp2_with fail
     refine (zbV hs ⟨#[43]⟩ (by simp)).mono ?_;rintro en w2 ⟨rfl,aw⟩;rw[show s1.is (ByteArray.mk #[43]).data.toList=false from Ha.o];have aI:=hs.below aw;have cO:=zab aw;clear hs aw;go_wp2_with fail
     refine (zbV aI ⟨#[45]⟩ (by simp)).mono ?_;rintro en w3 ⟨rfl,bD⟩;rw[show s1.is (ByteArray.mk #[45]).data.toList=false from Hb.o];have cG:=zab (cO.o.trans (bD.mono cO.o.size));clear aI bD;go_wp2_with fail
     go_ret
     exact ⟨u3,rfl,iz.o.gb (zaf none cG.o) (by simp),Hs.o.below cG.o,zad Hg.o (zaf _ cG.o)⟩
    ·rw[ha,hb]at hp;simp only[zAu,if_true,zyQ]at hp;obtain ⟨q2,bC,fB⟩:=hp;have mE:=zab fB;have jR:=zab bC;have Hb:=zab hb;clear ha hb fB bC;go_wp2_with fail
     refine (zbV hs ⟨#[43]⟩ (by simp)).mono ?_;rintro en w2 ⟨rfl,aw⟩;rw[show s1.is (ByteArray.mk #[43]).data.toList=false from Ha.o];have aI:=hs.below aw;have cO:=zab aw;clear hs aw;go_wp2_with fail
     refine (zbV aI ⟨#[45]⟩ (by simp)).mono ?_;rintro en w3 ⟨rfl,bD⟩;rw[show s1.is (ByteArray.mk #[45]).data.toList=true from Hb.o];have cG:=zab (cO.o.trans (bD.mono cO.o.size));clear aI bD;go_wp2_with fail
     refine (zdY hx (B:=zat w) (fun hr=>by simp only[zat]at hr;omega) (by rw[zry Hb.o];simp) (zie Hb.o) (iz.o.gb (zaf none cG.o) (by simp)) jR.o (Hs.o.below cG.o)).mono ?_;rintro en w4 ⟨v4,rfl,aZ,bV,bM⟩;have dv:=zab aZ;have gh:=zab bV;have gN:=zab bM;have jj:=aZ.one.cells;clear aZ bV bM;go_wp2_with fail
     go_roundg g
     case measure=>omega
     case rel=>
      refine ⟨_,q2.2,dv.o.mono (fun b _ hb=>?_),gh.o,zad (zad Hg.o (zaf _ cG.o)) gN.o,mE.o⟩;rcases hb with hb|hb
      ·exact hb
      ·have:=cG.o.size;simp only[zat]at hb ⊢;omega
   ·have Ha:=zab ha;rw[ha]at hp;simp only[zAv,if_true,zyQ]at hp;obtain ⟨q2,bC,fB⟩:=hp;have mE:=zab fB;have jR:=zab bC;clear ha fB bC;go_wp2_with fail
    refine (zbV hs ⟨#[43]⟩ (by simp)).mono ?_;rintro en w2 ⟨rfl,bD⟩;rw[show s1.is (ByteArray.mk #[43]).data.toList=true from Ha.o];have cG:=zab bD;clear hs bD;go_wp2_with fail
    refine (zdY hx (B:=zat w) (fun hr=>by simp only[zat]at hr;omega) (by rw[zry Ha.o];simp) (zie Ha.o) (iz.o.gb (zaf none cG.o) (by simp)) jR.o (Hs.o.below cG.o)).mono ?_;rintro en w4 ⟨v4,rfl,aZ,bV,bM⟩;have dv:=zab aZ;have gh:=zab bV;have gN:=zab bM;have jj:=aZ.one.cells;clear aZ bV bM;go_wp2_with fail
    go_roundg g
    case measure=>omega
    case rel=>
     refine ⟨_,q2.2,dv.o.mono (fun b _ hb=>?_),gh.o,zad (zad Hg.o (zaf _ cG.o)) gN.o,mE.o⟩;rcases hb with hb|hb
     ·exact hb
     ·have:=cG.o.size;simp only[zat]at hb ⊢;omega
theorem zwr(hx:zkx 252 sub):zkx 196 (fun st=>(sub st).bind fun r=>
  if r.2.is [61,61]||r.2.is [60] then (sub r.2.adv).bind fun q=>some (Th.ziR r.2.hd r.1 q.1,q.2) else some r):=by
 intro st q w r tb T hq h;have bd:=h.lt;have cu:=h.tlt;simp only[zyQ]at hq;obtain ⟨q1,cF,bC⟩:=hq;have HQ:=zab bC;clear bC;go_enter func196,ntmps196
 go_wp2_with fail
 refine (hx _ _ _ _ _ _ cF h).mono ?_;rintro en w1 ⟨v,rfl,aq,hs,hg⟩;have iz:=zab aq;have Hs:=zab hs;have Hg:=zab hg;have hc:=aq.one.cells;have hz:=hg.size;clear aq hg h cF;cases ha:q1.2.is [61,61]
 ·have Ha:=zab ha;cases hb:q1.2.is [60]
  ·have hp:=HQ.o;rw[ha,hb]at hp;simp only[zAm,zzw,if_false,zyP]at hp;subst hp;have Hb:=zab hb;clear ha hb;go_wp2_with fail
   refine (zbV hs ⟨#[61,61]⟩ (by simp)).mono ?_;rintro en w2 ⟨rfl,aw⟩;rw[show q1.2.is (ByteArray.mk #[61,61]).data.toList=false from Ha.o];have aI:=hs.below aw;have cO:=zab aw;clear hs aw;go_wp2_with fail
   refine (zbV aI ⟨#[60]⟩ (by simp)).mono ?_;rintro en w3 ⟨rfl,bD⟩;rw[show q1.2.is (ByteArray.mk #[60]).data.toList=false from Hb.o];have cG:=zab (cO.o.trans (bD.mono cO.o.size));clear aI bD;go_wp2_with fail
   go_ret
   exact ⟨v,rfl,iz.o.gb (zaf none cG.o) (by simp),Hs.o.below cG.o,zad Hg.o (zaf _ cG.o)⟩
  ·have hp:=HQ.o;rw[ha,hb]at hp;simp only[zAu,if_true,zyQ,zyP]at hp;obtain ⟨q2,bC,fB⟩:=hp;subst fB;have jR:=zab bC;have Hb:=zab hb;clear ha hb bC;go_wp2_with fail
   refine (zbV hs ⟨#[61,61]⟩ (by simp)).mono ?_;rintro en w2 ⟨rfl,aw⟩;rw[show q1.2.is (ByteArray.mk #[61,61]).data.toList=false from Ha.o];have aI:=hs.below aw;have cO:=zab aw;clear hs aw;go_wp2_with fail
   refine (zbV aI ⟨#[60]⟩ (by simp)).mono ?_;rintro en w3 ⟨rfl,bD⟩;rw[show q1.2.is (ByteArray.mk #[60]).data.toList=true from Hb.o];have cG:=zab (cO.o.trans (bD.mono cO.o.size));clear aI bD;go_wp2_with fail
   refine (zg5 hx (B:=zat w) (fun hr=>by simp only[zat]at hr;omega) (by rw[zry Hb.o];simp) (zie Hb.o) (iz.o.gb (zaf none cG.o) (by simp)) jR.o (Hs.o.below cG.o)).mono ?_;rintro en w4 ⟨v4,rfl,aZ,bV,bM⟩;have dv:=zab aZ;have gh:=zab bV;have gN:=zab bM;have jj:=aZ.one.cells;clear aZ bV bM;go_wp2_with fail
   go_ret
   refine ⟨v4,rfl,dv.o.mono (fun b _ hb=>?_),gh.o,zad (zad Hg.o (zaf _ cG.o)) gN.o⟩;rcases hb with hb|hb
   ·exact hb
   ·have:=cG.o.size;simp only[zat]at hb ⊢;omega
 ·have Ha:=zab ha;have hp:=HQ.o;rw[ha]at hp;simp only[zAv,if_true,zyQ,zyP]at hp;obtain ⟨q2,bC,fB⟩:=hp;subst fB;have jR:=zab bC;clear ha bC;go_wp2_with fail
  refine (zbV hs ⟨#[61,61]⟩ (by simp)).mono ?_;rintro en w2 ⟨rfl,bD⟩;rw[show q1.2.is (ByteArray.mk #[61,61]).data.toList=true from Ha.o];have cG:=zab bD;clear hs bD;go_wp2_with fail
  refine (zg5 hx (B:=zat w) (fun hr=>by simp only[zat]at hr;omega) (by rw[zry Ha.o];simp) (zie Ha.o) (iz.o.gb (zaf none cG.o) (by simp)) jR.o (Hs.o.below cG.o)).mono ?_;rintro en w4 ⟨v4,rfl,aZ,bV,bM⟩;have dv:=zab aZ;have gh:=zab bV;have gN:=zab bM;have jj:=aZ.one.cells;clear aZ bV bM;go_wp2_with fail
  go_ret
  refine ⟨v4,rfl,dv.o.mono (fun b _ hb=>?_),gh.o,zad (zad Hg.o (zaf _ cG.o)) gN.o⟩;rcases hb with hb|hb
  ·exact hb
  ·have:=cG.o.size;simp only[zat]at hb ⊢;omega
variable {ex:Th.Rd}
theorem zxW(hx:zso ex)(k:Nat):zkx 196 (Th.zjD ex k):=
 zwr (zyC (zrN (sub:=Th.zhP ex k) (fun _ _ _ _ _ _ hq h=>zxd hx hq h) k) k)
variable {w:World}
variable {r tb:Nat}
variable {T:List Th.Tok}
variable {q:Th.Ex × Th.St}
theorem zsI(hx:zso ex)(hq:ex true (Th.want [61] (Th.zaL st).2)=some q)(h:RS w r tb T st):
  Calls prog 249 #[.pointer (some ⟨r,0,none⟩)] w fun en w'=>
   ∃ v,en=.returned (.agg #[.string ⟨(Th.zaL st).1.s.toArray⟩,.int .i64 (Th.zaL st).1.at_,v])/\Got (zat w) w' v q.1 q.2/\RS w' r tb T q.2/\w.grownBy w' (some r):=by
 have bd:=h.lt;have cu:=h.tlt;have HQ:=zab hq;have h0:=h.alloc (.cells #[.string ⟨#[]⟩,.int .i64 0,.nilIface] 312);have BR:=zab (Blk.new w [.string ⟨#[]⟩,.int .i64 0,.nilIface] 312);have eQ:=zab (zag w (.cells #[.string ⟨#[]⟩,.int .i64 0,.nilIface] 312) (some r));clear hq h;go_enter func249,ntmps249
 go_wp2_with fail
 refine (zg4 h0).mono ?_;rintro e w1 ⟨rfl,aW,bw⟩;obtain ⟨⟨x,s1⟩,tG⟩:∃ y,Th.zaL st=y:=⟨_,rfl⟩;rw[tG]at aW HQ ⊢;have gF:=zab (aW.alloc (.cells #[.string ⟨x.s.toArray⟩,.int .i64 x.at_,.nilIface] 312));have gY:=zab (zad (zad eQ.o bw) (zag w1 (.cells #[.string ⟨x.s.toArray⟩,.int .i64 x.at_,.nilIface] 312) (some r)));have aP:w.heap.size<w1.heap.size:=by have:=bw.size;simp at this;omega
 have B1:=zab (Blk.new w1 [.string ⟨x.s.toArray⟩,.int .i64 x.at_,.nilIface] 312);have om:=zab ((BR.o.grown bw (by simp;omega)).alloc (.cells #[.string ⟨x.s.toArray⟩,.int .i64 x.at_,.nilIface] 312));have Dj:=zab tG;clear h0 aW bw tG;go_wp2_with fail
 refine (zaX gF.o ⟨#[61]⟩ (by simp)).mono ?_;rintro e w2 ⟨rfl,aI,aF⟩;have eK:=zab (zad gY.o aF);have B2:=zab (B1.o.grown aF (by simp;omega));have vh:=zab (om.o.grown aF (by simp;omega));clear aF;go_wp2_with fail
 refine (hx _ _ _ _ _ _ _ HQ.o aI).mono ?_;rintro e w3 ⟨v,rfl,aq,bP,aS⟩;have B3:=B2.o.grown aS (by simp;omega);have km:=vh.o.grown aS (by simp;omega);have c0:=B3.cell 0;have c1:=B3.cell 1;have c2:=B3.cell 2;have f2:=B3.frozen 2;have d0:=km.cell 0;have d1:=km.cell 1;have d2:=km.cell 2;have g0:=km.frozen 0;have g1:=km.frozen 1;have g2:=km.frozen 2;simp at c0 c1 c2 d0 d1 d2;have gC:=zab (zad eK.o aS);have aL:=B3.lt;have mw:=zab B3;have BE:=zab km;have fG:=zab bP;have ho:=aq.one;have cj:=zab (aq.mono (S':=fun b=>zat w b/\b≠w1.heap.size/\b≠w.heap.size) (fun k _ hk=>by
  have h1:=eK.o.size;have h2:=B2.o.lt;simp only[zat]at hk ⊢;omega))
 have B4:=zab (((((km.other ⟨w1.heap.size,2,none⟩ v (by simp;omega)).set 0 (.string ⟨x.s.toArray⟩)).set 1 (.int .i64 x.at_)).set 2 v));have cE:=zab (And.intro
  ((((((cj.o.gb (zaT w3 w1.heap.size 2 v) (by simp)).gb (zaT _ w.heap.size 0 (.string ⟨x.s.toArray⟩)) (by simp)).gb (zaT _ w.heap.size 1 (.int .i64 x.at_)) (by simp)).gb (zaT _ w.heap.size 2 v) (by simp))).mono (S':=zat w) (fun k _ hk=>hk.1))
  (And.intro ((((fG.o.set w1.heap.size 2 v (by omega) (by omega)).set w.heap.size 0 (.string ⟨x.s.toArray⟩) (by omega) (by omega)).set w.heap.size 1 (.int .i64 x.at_) (by omega) (by omega)).set w.heap.size 2 v (by omega) (by omega))
   (zap (zap (zap (zap gC.o ⟨w1.heap.size,2,none⟩ v (zAk aP)) ⟨w.heap.size,0,none⟩ (.string ⟨x.s.toArray⟩) (zyN _)) ⟨w.heap.size,1,none⟩ (.int .i64 x.at_) (zyN _)) ⟨w.heap.size,2,none⟩ v (zyN _))))
 clear aI aS B3 km bP aq cj;rcases ho.shape with rfl|⟨t1,x1,rfl⟩
 all_goals
  clear ho;go_wp2_with fail
  have p0:=B4.o.cell 0;have p1:=B4.o.cell 1;have p2:=B4.o.cell 2;simp at p0 p1 p2;refine bodyPost_ret (by simp[results,Tryz.results249,go_sem,p0,p1,p2];rfl) rfl ⟨_,by rw[Dj.o],cE.o⟩
variable {S:Nat->Prop}
variable {n:Nat}
variable {v:Value}
theorem zan{e:TypeId}{size:Nat}{xs:List Value}(h:Row S w e size v n xs):v=.slice none 0 0\/∃ g cap,v=.slice (some ⟨g,0,none⟩) n cap:=by
 rcases h.1.2 with ⟨h,_⟩|⟨g,cap,cur,h,_⟩
 ·exact .inl h
 ·exact .inr ⟨g,cap,h⟩
theorem zw7{w7:World}{b1:Nat}{nv:Value}{x:Th.Ex}{s:Th.St}{vs:List Value}{l:List Th.Tok}(tg:Nat)(hb:Blk w7 w.heap.size [.int .i64 0,.slice none 0 0,.nilIface] 240)(hr:Row (fun b=>zat w b/\b≠b1/\b≠w.heap.size) w7 88 2 nv l.length vs)(hg:Got (fun b=>zat w b/\b≠b1/\b≠w.heap.size) w7 v x s)(hs:RS w7 r tb T s)(hG:w.grownBy w7 (some r))(hz:w.heap.size<b1)(bd:r<w.heap.size)(cu:tb<w.heap.size):
  Blk ((((w7.setCell ⟨b1,2,none⟩ v).setCell ⟨w.heap.size,0,none⟩ (.int .i64 tg)).setCell ⟨w.heap.size,1,none⟩ nv).setCell ⟨w.heap.size,2,none⟩ v) w.heap.size [.int .i64 tg,nv,v] 240 /\
  Row (zat w) ((((w7.setCell ⟨b1,2,none⟩ v).setCell ⟨w.heap.size,0,none⟩ (.int .i64 tg)).setCell ⟨w.heap.size,1,none⟩ nv).setCell ⟨w.heap.size,2,none⟩ v) 88 2 nv l.length vs /\
  Got (zat w) ((((w7.setCell ⟨b1,2,none⟩ v).setCell ⟨w.heap.size,0,none⟩ (.int .i64 tg)).setCell ⟨w.heap.size,1,none⟩ nv).setCell ⟨w.heap.size,2,none⟩ v) v x s /\
  RS ((((w7.setCell ⟨b1,2,none⟩ v).setCell ⟨w.heap.size,0,none⟩ (.int .i64 tg)).setCell ⟨w.heap.size,1,none⟩ nv).setCell ⟨w.heap.size,2,none⟩ v) r tb T s /\
  w.grownBy ((((w7.setCell ⟨b1,2,none⟩ v).setCell ⟨w.heap.size,0,none⟩ (.int .i64 tg)).setCell ⟨w.heap.size,1,none⟩ nv).setCell ⟨w.heap.size,2,none⟩ v) (some r):=by
 refine ⟨?_,?_,?_,?_,?_⟩
 ·exact (((hb.other ⟨b1,2,none⟩ v (by simp;omega)).set 0 (.int .i64 tg)).set 1 nv).set 2 v
 ·exact ((((hr.gb (zaT _ _ _ _) (by simp)).gb (zaT _ _ _ _) (by simp)).gb (zaT _ _ _ _) (by simp)).gb (zaT _ _ _ _) (by simp)).mono (fun k _ hk=>hk.1)
 ·exact ((((hg.gb (zaT _ _ _ _) (by simp)).gb (zaT _ _ _ _) (by simp)).gb (zaT _ _ _ _) (by simp)).gb (zaT _ _ _ _) (by simp)).mono (fun k _ hk=>hk.1)
 ·exact (((hs.set _ _ _ (by omega) (by omega)).set _ _ _ (by omega) (by omega)).set _ _ _ (by omega) (by omega)).set _ _ _ (by omega) (by omega)
 ·exact zap (zap (zap (zap hG _ _ (zAk hz)) _ _ (zyN _)) _ _ (zyN _)) _ _ (zyN _)
theorem zwN(hx:zso ex){c:Bool}{q:(Nat × List Th.Tok) × Th.Ex × Th.St}(hq:Th.ztN ex c st=some q)(h:RS w r tb T st):
  Calls prog 250 #[.pointer (some ⟨r,0,none⟩),.bool c] w fun en w'=>
   ∃ nv v,en=.returned (.agg #[.int .i64 q.1.1,nv,v])/\Row (zat w) w' 88 2 nv q.1.2.length (zaj q.1.2)/\Got (zat w) w' v q.2.1 q.2.2/\RS w' r tb T q.2.2/\w.grownBy w' (some r):=by
 have bd:=h.lt;have cu:=h.tlt;unfold Th.ztN at hq;simp only[zyQ,zyP]at hq;obtain ⟨q1,cF,rfl⟩:=hq;generalize mg:Th.zaB 1 99 (Th.want [60] st)=tg at cF ⊢;generalize da:Th.zax (Th.want [62] tg.2)=ln at cF ⊢;have HQ:=zab cF;have vV:=zab mg;have kB:=zab da;have h0:=h.alloc (.cells #[.int .i64 0,.slice none 0 0,.nilIface] 240);have BR:=zab (Blk.new w [.int .i64 0,.slice none 0 0,.nilIface] 240);have eQ:=zab (zag w (.cells #[.int .i64 0,.slice none 0 0,.nilIface] 240) (some r));clear cF h mg da;go_enter func250,ntmps250
 go_wp2_with fail
 refine (zaX h0 ⟨#[60]⟩ (by simp)).mono ?_;rintro e w1 ⟨rfl,aW,bw⟩;have gY:=zab (zad eQ.o bw);have om:=zab (BR.o.grown bw (by simp;omega));clear h0 bw;go_wp2_with fail
 refine (zuF aW).mono ?_;rintro e w2 ⟨rfl,aI,aF⟩;rw[show Th.zaB 1 99 (Th.want (ByteArray.mk #[60]).data.toList st)=tg from vV.o]at aI ⊢;have bF:w.heap.size<w2.heap.size:=by have h1:=om.o.lt;have h2:=aF.size;omega
 have eK:=zab (zad (zad gY.o aF) (zag w2 (.cells #[.int .i64 tg.1,.slice none 0 0,.nilIface] 240) (some r)));have vh:=zab ((om.o.grown aF (by simp;omega)).alloc (.cells #[.int .i64 tg.1,.slice none 0 0,.nilIface] 240));have B2:=zab (Blk.new w2 [.int .i64 tg.1,.slice none 0 0,.nilIface] 240);have eS:=zab (aI.alloc (.cells #[.int .i64 tg.1,.slice none 0 0,.nilIface] 240));clear aW aI aF;go_wp2_with fail
 refine (zaX eS.o ⟨#[62]⟩ (by simp)).mono ?_;rintro e w3 ⟨rfl,bP,aS⟩;have gC:=zab (zad eK.o aS);have km:=zab (vh.o.grown aS (by simp;omega));have B3:=zab (B2.o.grown aS (by simp;omega));clear aS;go_wp2_with fail
 refine (zn3 bP).mono ?_;rintro e w4 ⟨nv,rfl,af,bV,bM⟩;rw[show Th.zax (Th.want (ByteArray.mk #[62]).data.toList tg.2)=ln from kB.o]at af bV;have ym:=gC.o.size;have bD:=B3.o.lt;have hR:Row (fun b=>zat w b/\b≠w2.heap.size/\b≠w.heap.size) w4 88 2 nv ln.1.length (zaj ln.1):=(Row.zaE af).mono (fun k _ hk=>by simp only[zat];omega);have gZ:=zab (zad gC.o bM);have tV:=km.o.grown bM (by simp;omega);have B4:=B3.o.grown bM (by simp;omega);have c1:=B4.cell 1;have f1:=B4.frozen 1;simp at c1;have xF:=B4.lt;have Bk:=zab (tV.other ⟨w2.heap.size,1,none⟩ nv (by simp;omega));have B5:=zab (B4.set 1 nv);have oF:=zab (bV.set w2.heap.size 1 nv (by omega) (by omega));have lS:=zab (zap gZ.o ⟨w2.heap.size,1,none⟩ nv (zAk bF));have Cz:=zab (hR.gb (zaT w4 w2.heap.size 1 nv) (by simp));have gV:=zan hR;clear bP bV bM af hR tV B4;rcases gV with rfl|⟨gn,wu,rfl⟩
 all_goals
  go_wp2_with fail
  refine (zaX oF.o ⟨#[45,62]⟩ (by simp)).mono ?_;rintro e w6 ⟨rfl,jL,fk⟩;have kb:=zab (zad lS.o fk);have vj:=zab (Bk.o.grown fk (by simp;omega));have B6:=zab (B5.o.grown fk (by simp;omega));have vS:=zab (Cz.o.gb fk (fun k hk=>by cases hk;simp only[zat];omega));clear fk c1 f1;go_wp2_with fail
  refine (hx _ _ _ _ _ _ _ HQ.o jL).mono ?_;rintro e w7 ⟨v,rfl,aq,s7,kW⟩;have ko:=vj.o.grown kW (by simp;omega);have B7:=B6.o.grown kW (by simp;omega);have c0:=B7.cell 0;have c1:=B7.cell 1;have c2:=B7.cell 2;have f2:=B7.frozen 2;have d0:=ko.cell 0;have d1:=ko.cell 1;have d2:=ko.cell 2;have g0:=ko.frozen 0;have g1:=ko.frozen 1;have g2:=ko.frozen 2;simp at c0 c1 c2 d0 d1 d2;have qv:=zab (zad kb.o kW);have vT:=zab (vS.o.gb kW (fun k hk=>by cases hk;simp only[zat];omega));have EO:=B7.lt;have cj:=zab (aq.mono (S':=fun b=>zat w b/\b≠w2.heap.size/\b≠w.heap.size) (fun k _ hk=>by
   have h1:=kb.o.size;have h2:=B6.o.lt;simp only[zat]at hk ⊢;omega))
  have ho:=aq.one;have v8:=zab s7;have yN:=zab B7;have ov:=zab ko;clear jL kW aq s7 B7 ko;rcases ho.shape with rfl|⟨t1,x1,rfl⟩
  all_goals
   clear ho;have cE:=zab (zw7 tg.1 ov.o vT.o cj.o v8.o qv.o bF bd cu);go_wp2_with fail
   have p0:=cE.o.1.cell 0;have p1:=cE.o.1.cell 1;have p2:=cE.o.1.cell 2;simp at p0 p1 p2;refine bodyPost_ret (by simp[results,Tryz.results250,go_sem,p0,p1,p2]) rfl ⟨_,_,rfl,cE.o.2⟩
theorem zvQ{w7:World}{b1:Nat}{nv:Value}{x:Th.Ex}{s:Th.St}{vs:List Value}{l:List Th.Tok}{t:TypeId}(nm:ByteArray)(at_:Int)(hb:Blk w7 w.heap.size [.string ⟨#[]⟩,.int .i64 0,.slice none 0 0,.nilIface] t)(hr:Row (fun b=>zat w b/\b≠b1/\b≠w.heap.size) w7 88 2 nv l.length vs)(hg:Got (fun b=>zat w b/\b≠b1/\b≠w.heap.size) w7 v x s)(hs:RS w7 r tb T s)(hG:w.grownBy w7 (some r))(bd:r<w.heap.size)(cu:tb<w.heap.size):
  Blk ((((w7.setCell ⟨w.heap.size,0,none⟩ (.string nm)).setCell ⟨w.heap.size,1,none⟩ (.int .i64 at_)).setCell ⟨w.heap.size,2,none⟩ nv).setCell ⟨w.heap.size,3,none⟩ v) w.heap.size [.string nm,.int .i64 at_,nv,v] t /\
  Row (zat w) ((((w7.setCell ⟨w.heap.size,0,none⟩ (.string nm)).setCell ⟨w.heap.size,1,none⟩ (.int .i64 at_)).setCell ⟨w.heap.size,2,none⟩ nv).setCell ⟨w.heap.size,3,none⟩ v) 88 2 nv l.length vs /\
  Got (zat w) ((((w7.setCell ⟨w.heap.size,0,none⟩ (.string nm)).setCell ⟨w.heap.size,1,none⟩ (.int .i64 at_)).setCell ⟨w.heap.size,2,none⟩ nv).setCell ⟨w.heap.size,3,none⟩ v) v x s /\
  RS ((((w7.setCell ⟨w.heap.size,0,none⟩ (.string nm)).setCell ⟨w.heap.size,1,none⟩ (.int .i64 at_)).setCell ⟨w.heap.size,2,none⟩ nv).setCell ⟨w.heap.size,3,none⟩ v) r tb T s /\
  w.grownBy ((((w7.setCell ⟨w.heap.size,0,none⟩ (.string nm)).setCell ⟨w.heap.size,1,none⟩ (.int .i64 at_)).setCell ⟨w.heap.size,2,none⟩ nv).setCell ⟨w.heap.size,3,none⟩ v) (some r):=by
 refine ⟨?_,?_,?_,?_,?_⟩
 ·exact (((hb.set 0 (.string nm)).set 1 (.int .i64 at_)).set 2 nv).set 3 v
 ·exact ((((hr.gb (zaT _ _ _ _) (by simp)).gb (zaT _ _ _ _) (by simp)).gb (zaT _ _ _ _) (by simp)).gb (zaT _ _ _ _) (by simp)).mono (fun k _ hk=>hk.1)
 ·exact ((((hg.gb (zaT _ _ _ _) (by simp)).gb (zaT _ _ _ _) (by simp)).gb (zaT _ _ _ _) (by simp)).gb (zaT _ _ _ _) (by simp)).mono (fun k _ hk=>hk.1)
 ·exact (((hs.set _ _ _ (by omega) (by omega)).set _ _ _ (by omega) (by omega)).set _ _ _ (by omega) (by omega)).set _ _ _ (by omega) (by omega)
 ·exact zap (zap (zap (zap hG _ _ (zyN _)) _ _ (zyN _)) _ _ (zyN _)) _ _ (zyN _)
theorem zpu(hx:zso ex){q:Th.zbr × Th.St}(hq:Th.zmE ex st=some q)(h:RS w r tb T st):
  Calls prog 68 #[.pointer (some ⟨r,0,none⟩)] w fun en w'=>
   ∃ nv v,en=.returned (.agg #[.string ⟨q.1.name.s.toArray⟩,.int .i64 q.1.name.at_,nv,v])/\Row (zat w) w' 88 2 nv q.1.params.length (zaj q.1.params)/\Got (zat w) w' v q.1.e q.2/\RS w' r tb T q.2/\w.grownBy w' (some r):=by
 have bd:=h.lt;have cu:=h.tlt;unfold Th.zmE at hq;simp only[zyQ,zyP]at hq;obtain ⟨q1,cF,rfl⟩:=hq;generalize mg:Th.zaL st=tg at cF ⊢;generalize da:Th.zax tg.2=ln at cF ⊢;have HQ:=zab cF;have vV:=zab mg;have kB:=zab da;have h0:=h.alloc (.cells #[.string ⟨#[]⟩,.int .i64 0,.slice none 0 0,.nilIface] 93);have BR:=zab (Blk.new w [.string ⟨#[]⟩,.int .i64 0,.slice none 0 0,.nilIface] 93);have eQ:=zab (zag w (.cells #[.string ⟨#[]⟩,.int .i64 0,.slice none 0 0,.nilIface] 93) (some r));clear cF h mg da;go_enter func68,ntmps68
 go_wp2_with fail
 refine (zg4 h0).mono ?_;rintro e w1 ⟨rfl,aW,bw⟩;rw[vV.o]at aW ⊢;have gY:=zab (zad eQ.o bw);have om:=zab (BR.o.grown bw (by simp;omega));clear h0 bw;go_wp2_with fail
 refine (zn3 aW).mono ?_;rintro e w4 ⟨nv,rfl,af,bV,bM⟩;rw[kB.o]at af bV;have aP:=om.o.lt;have GQ:=bM.size;have hR:Row (fun b=>zat w b/\b≠w4.heap.size/\b≠w.heap.size) w4 88 2 nv ln.1.length (zaj ln.1):=(Row.zaE af).mono (fun k cK hk=>by simp only[zat];omega);have gZ:=zab (zad (zad gY.o bM) (zag w4 (.cells #[.string ⟨tg.1.s.toArray⟩,.int .i64 tg.1.at_,nv,.nilIface] 93) (some r)));have tV:=zab ((om.o.grown bM (by simp;omega)).alloc (.cells #[.string ⟨tg.1.s.toArray⟩,.int .i64 tg.1.at_,nv,.nilIface] 93));have B4:=zab (Blk.new w4 [.string ⟨tg.1.s.toArray⟩,.int .i64 tg.1.at_,nv,.nilIface] 93);have gh:=zab (bV.alloc (.cells #[.string ⟨tg.1.s.toArray⟩,.int .i64 tg.1.at_,nv,.nilIface] 93));have vR:=zab (hR.gb (zag w4 (.cells #[.string ⟨tg.1.s.toArray⟩,.int .i64 tg.1.at_,nv,.nilIface] 93) none) (by simp));have gV:=zan hR;clear aW bV bM af hR;rcases gV with rfl|⟨gn,wu,rfl⟩
 all_goals
  go_wp2_with fail
  refine (zaX gh.o ⟨#[61]⟩ (by simp)).mono ?_;rintro e w6 ⟨rfl,jL,fk⟩;have kb:=zab (zad gZ.o fk);have vj:=zab (tV.o.grown fk (by simp;omega));have B6:=zab (B4.o.grown fk (by simp;omega));have vS:=zab (vR.o.gb fk (fun k hk=>by cases hk;simp only[zat];omega));clear fk;go_wp2_with fail
  refine (hx _ _ _ _ _ _ _ HQ.o jL).mono ?_;rintro e w7 ⟨v,rfl,aq,s7,kW⟩;have ko:=vj.o.grown kW (by simp;omega);have B7:=B6.o.grown kW (by simp;omega);have c3:=B7.cell 3;have f3:=B7.frozen 3;simp at c3;have qv:=zab (zap (zad kb.o kW) ⟨w4.heap.size,3,none⟩ v (by simp;omega));have vT:=zab ((vS.o.gb kW (fun k hk=>by cases hk;simp only[zat];omega)).gb (zaT w7 w4.heap.size 3 v) (by simp));have EO:=B7.lt;have cj:=zab ((aq.mono (S':=fun b=>zat w b/\b≠w4.heap.size/\b≠w.heap.size) (fun k _ hk=>by
   have h1:=kb.o.size;have h2:=B6.o.lt;simp only[zat]at hk ⊢;omega)).gb (zaT w7 w4.heap.size 3 v) (by simp))
  have ho:=aq.one;have v8:=zab (s7.set w4.heap.size 3 v (by omega) (by omega));have yN:=zab (B7.set 3 v);have ov:=zab (ko.other ⟨w4.heap.size,3,none⟩ v (by simp;omega));clear jL kW aq s7 B7 ko;rcases ho.shape with rfl|⟨t1,x1,rfl⟩
  all_goals
   clear ho;go_wp2_with fail
   refine (zaX v8.o ⟨#[59]⟩ (by simp)).mono ?_;rintro e w8 ⟨rfl,p8,pX⟩;have lO:=ov.o.grown pX (by simp;omega);have B8:=yN.o.grown pX (by simp;omega);have d0:=lO.cell 0;have d1:=lO.cell 1;have d2:=lO.cell 2;have d3:=lO.cell 3;have g0:=lO.frozen 0;have g1:=lO.frozen 1;have g2:=lO.frozen 2;have g3:=lO.frozen 3;have e0:=B8.cell 0;have e1:=B8.cell 1;have e2:=B8.cell 2;have e3:=B8.cell 3;simp at d0 d1 d2 d3 e0 e1 e2 e3;have cE:=zab (zvQ ⟨tg.1.s.toArray⟩ tg.1.at_ lO (vT.o.gb pX (fun k hk=>by cases hk;simp only[zat];omega)) ((cj.o.gb pX (fun k hk=>by cases hk;simp only[zat];omega)).st (zaC [59] q1.2)) p8 (zad qv.o pX) bd cu);clear p8 pX lO B8 c3 f3;go_wp2_with fail
   have p0:=cE.o.1.cell 0;have p1:=cE.o.1.cell 1;have p2:=cE.o.1.cell 2;have p3:=cE.o.1.cell 3;simp at p0 p1 p2 p3;refine bodyPost_ret (by simp[results,Tryz.results68,go_sem,p0,p1,p2,p3]) rfl ⟨_,_,rfl,cE.o.2⟩
end Go.Proofs.YtgahgkddaljmkaaGreatDoor
