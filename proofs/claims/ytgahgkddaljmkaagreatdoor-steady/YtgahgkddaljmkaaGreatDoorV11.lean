/- Par3 .. Par8 -/
import Derived.Test.YtgahgkddaljmkaaGreatDoorV10
import Derived.Test.YtgahgkddaljmkaaGreatDoorV1
set_option maxRecDepth 100000
set_option maxHeartbeats 4000000
namespace Go.Proofs.YtgahgkddaljmkaaGreatDoor
open Go.RowKit
attribute [local go_sem] zc5 zc0 zc2
variable {st:Th.St}
theorem zhK(h:Th.zcK st=true):st.bad=none:=by
 obtain ⟨rest,bad⟩:=st;cases bad with
 |some p=>simp[Th.zcK,Th.St.kind,Th.St.is]at h
 |none=>rfl
variable {S:Nat->Prop}
variable {w:World}
variable {n:Nat}
theorem zvj{m:Nat}{v1 v2:Value}{e1 e2:Th.Ex}(h1:Rep S w n v1 e1)(h2:Rep S w m v2 e2):Rep S w (n+m+1) (.iface 163 (.agg #[v1,v2])) (Th.zcd e1 e2):=
 .inr (.inr (.inr (.inr (.inl ⟨rfl,v1,v2,e1,e2,rfl,rfl,h1.le (by omega),h2.le (by omega)⟩))))
theorem zsY{m:Nat}{v1 v2:Value}{e1 e2:Th.Ex}(t:Th.Tok)(h1:Rep S w n v1 e1)(h2:Rep S w m v2 e2):Rep S w (n+m+1) (.iface 166 (.agg #[.string ⟨t.s.toArray⟩,v1,v2])) (Th.zjk t e1 e2):=
 .inr (.inr (.inr (.inr (.inr (.inl ⟨rfl,v1,v2,e1,e2,rfl,rfl,h1.le (by omega),h2.le (by omega)⟩)))))
variable {ex:Th.Rd}
variable {r tb:Nat}
variable {T:List Th.Tok}
variable {q:Th.Ex × Th.St}
theorem zwr(hx:zr0 ex){k:Nat}(hq:Th.zhH ex k st=some q)(h:RS w r tb T st):
  Calls Tryz.prog 281 #[.pointer (some ⟨r,0,none⟩)] w fun en w'=>Reads w r tb T q.1 q.2 en w':=by
 have hrl:=h.lt;have htl:=h.tlt;unfold Th.zhH at hq;simp only[zxM]at hq;obtain ⟨q1,hq1,hq2⟩:=hq;have HQ:=zab hq2;clear hq2;go_enter Tryz.func281,Tryz.ntmps281
 go_wp2_with fail
 refine (zr8 hx hq1 h).mono ?_;rintro en w1 ⟨v,rfl,hgot,hs1,hg1⟩;have Hgot:=zab hgot;have Hs1:=zab hs1;have Hg1:=zab hg1;have hc:=hgot.one.cells;clear hgot hs1 hg1 h hq1;go_wp2_with fail
 go_loopg [3] k (fun g v wr=>∃ e1 s1,Got (zat w) wr v e1 s1/\RS wr r tb T s1/\w.grownBy wr (some r)/\Th.zcT ex g e1 s1=some q)
 case atStart=>exact ⟨q1.1,q1.2,Hgot.o,Hs1.o,Hg1.o,HQ.o⟩
 case round=>
  obtain ⟨e1,s1,hgot,hs,hg,hp⟩:=hrel;have hc3:=hgot.one.cells;have Hgt:=zab hgot;have Hs:=zab hs;have Hg:=zab hg;clear hgot hg hc;cases gk with
  |zero=>simp[Th.zcT]at hp
  |succ g=>
   rw[Th.zcT]at hp;cases hb:Th.zcK s1
   ·rw[hb]at hp;simp only[zys,if_false,zxL]at hp;subst hp;have Hb:=zab hb;clear hb;go_wp2_with fail
    refine (zeD hs).mono ?_;rintro e w2 ⟨rfl,hb2⟩;rw[Hb.o];have Hb2:=zab hb2;clear hs hb2;go_wp2_with fail
    go_ret
    exact ⟨u3,rfl,Hgt.o.gb (zaf none Hb2.o) (by simp),Hs.o.below Hb2.o,zad Hg.o (zaf _ Hb2.o)⟩
   ·rw[hb]at hp;simp only[if_true,zxM]at hp;obtain ⟨q2,hq2,hp2⟩:=hp;have Hp2:=zab hp2;have Hq2:=zab hq2;have Hb:=zab hb;clear hb hp2 hq2;go_wp2_with fail
    refine (zeD hs).mono ?_;rintro e w2 ⟨rfl,hb2⟩;rw[Hb.o];have hs2:=hs.below hb2;have Hb2:=zab hb2;clear hs hb2;go_wp2_with fail
    refine (zr8 hx Hq2.o hs2).mono ?_;rintro en w3 ⟨v2,rfl,hgot2,hs3,hg3⟩;have ho2:=hgot2.one;have ho3:=Hgt.o.one;have Hgot2:=zab hgot2;have Hs3:=zab hs3;have Hg3:=zab hg3;clear hs2 hgot2 hs3 hg3 hc3;rcases ho3.shape with rfl|⟨t3,x3,rfl⟩ <;> rcases ho2.shape with rfl|⟨t2,x2,rfl⟩
    all_goals
     clear ho2 ho3;go_wp2_with fail
     go_roundg g
     case measure=>omega
     case rel=>
      have hz:=(zad Hg.o (zaf (some r) Hb2.o)).size;refine ⟨Th.zcd e1 q2.1,q2.2,⟨zbY _ _,fun hbad=>?_⟩,Hs3.o,zad (zad Hg.o (zaf _ Hb2.o)) Hg3.o,Hp2.o⟩;obtain ⟨n1,hn1⟩:=((Hgt.o.gb (zaf none Hb2.o) (by simp)).gb Hg3.o (ztZ hrl)).rep (zhK Hb.o);obtain ⟨n2,hn2⟩:=(Hgot2.o.mono (S':=zat w) (fun k _ hk=>zxN hz hk)).rep hbad;exact ⟨_,zvj hn1 hn2⟩
def zkt (f:Nat) (sub:Th.St->Option (Th.Ex × Th.St)):Prop:=∀ (st:Th.St) (q:Th.Ex × Th.St) (w:World) (r tb:Nat) (T:List Th.Tok),sub st=some q->RS w r tb T st ->
 Calls Tryz.prog f #[.pointer (some ⟨r,0,none⟩)] w fun en w'=>Reads w r tb T q.1 q.2 en w'
variable {sub:Th.St->Option (Th.Ex × Th.St)}
variable {v:Value}
variable {e:Th.Ex}
variable {B:Nat->Prop}
theorem zf3(hx:zkt 281 sub)(hB:¬ B r)(hne:st.hd.s≠[])(hi:st.bad=none)(hv:Got B w v e st)(hq:sub st.adv=some q)(h:RS w r tb T st):
  Calls Tryz.prog 253 #[.pointer (some ⟨r,0,none⟩),v,.func (.func 281) #[.pointer (some ⟨r,0,none⟩)] #[]] w fun en w'=>∃ v2,en=.returned v2/\Got (fun b=>B b\/zat w b) w' v2 (Th.zjk st.hd e q.1) q.2/\RS w' r tb T q.2/\w.grownBy w' (some r):=by
 have hrl:=h.lt;obtain ⟨t,tk,ti,th,tm,tc⟩:=zgN h;have hth:=th hi;rw[hth]at hne ⊢;have Hw:Hid (Th.want t.s st=st.adv):=zab (by rw[Th.want,ti t.s hne];simp);have Hne:=zab hne;have HH:=zab h;have HV:=zab hv;have HQ:=zab hq;have Hi:=zab hi;have HB:=zab hB;have ho1:=hv.one;clear tk ti th tm hth hne hv hq hi hB;rcases ho1.shape with rfl|⟨t1,x1,rfl⟩
 all_goals
  clear ho1;go_enter Tryz.func253,Tryz.ntmps253
  go_wp2_with fail
  refine tc.mono ?_;rintro en w1 ⟨rfl,hb⟩;have hs1:=h.below hb;have Hb:=zab hb;clear tc hb;go_wp2_with fail
  refine (zaW hs1 ⟨t.s.toArray⟩ (by simpa using Hne.o)).mono ?_;rintro en w2 ⟨rfl,hs2,hg2⟩;rw[show Th.want (ByteArray.mk t.s.toArray).data.toList st=st.adv from Hw.o]at hs2;have Hs2:=zab hs2;have Hg2:=zab (zad (zaf _ Hb.o) hg2);clear hs1 hs2 hg2 h;go_wp2_with fail
  refine (hx _ _ _ _ _ _ HQ.o Hs2.o).mono ?_;rintro en w3 ⟨v2,rfl,hgot2,hs3,hg3⟩;have Hgot2:=zab hgot2;have Hs3:=zab hs3;have Hg3:=zab (zad Hg2.o hg3);have ho2:=hgot2.one;clear hgot2 hs3 hg3;rcases ho2.shape with rfl|⟨t2,x2,rfl⟩
  all_goals
   clear ho2;go_wp2_with fail
   go_ret
   refine ⟨_,rfl,⟨zbY _ _,fun hbad=>?_⟩,Hs3.o,Hg3.o⟩;obtain ⟨n1,hn1⟩:=(HV.o.gb Hg3.o (fun k hk=>by cases hk;exact HB.o)).rep Hi.o;obtain ⟨n2,hn2⟩:=Hgot2.o.rep hbad;exact ⟨_,zsY t (hn1.mono (fun k _ hk=>.inl hk)) (hn2.mono (fun k _ hk=>.inr (zxN Hg2.o.size hk)))⟩
theorem zdU(hx:zkt 273 sub)(hB:¬ B r)(hne:st.hd.s≠[])(hi:st.bad=none)(hv:Got B w v e st)(hq:sub st.adv=some q)(h:RS w r tb T st):
  Calls Tryz.prog 253 #[.pointer (some ⟨r,0,none⟩),v,.func (.func 273) #[.pointer (some ⟨r,0,none⟩)] #[]] w fun en w'=>∃ v2,en=.returned v2/\Got (fun b=>B b\/zat w b) w' v2 (Th.zjk st.hd e q.1) q.2/\RS w' r tb T q.2/\w.grownBy w' (some r):=by
 have hrl:=h.lt;obtain ⟨t,tk,ti,th,tm,tc⟩:=zgN h;have hth:=th hi;rw[hth]at hne ⊢;have Hw:Hid (Th.want t.s st=st.adv):=zab (by rw[Th.want,ti t.s hne];simp);have Hne:=zab hne;have HH:=zab h;have HV:=zab hv;have HQ:=zab hq;have Hi:=zab hi;have HB:=zab hB;have ho1:=hv.one;clear tk ti th tm hth hne hv hq hi hB;rcases ho1.shape with rfl|⟨t1,x1,rfl⟩
 all_goals
  clear ho1;go_enter Tryz.func253,Tryz.ntmps253
  go_wp2_with fail
  refine tc.mono ?_;rintro en w1 ⟨rfl,hb⟩;have hs1:=h.below hb;have Hb:=zab hb;clear tc hb;go_wp2_with fail
  refine (zaW hs1 ⟨t.s.toArray⟩ (by simpa using Hne.o)).mono ?_;rintro en w2 ⟨rfl,hs2,hg2⟩;rw[show Th.want (ByteArray.mk t.s.toArray).data.toList st=st.adv from Hw.o]at hs2;have Hs2:=zab hs2;have Hg2:=zab (zad (zaf _ Hb.o) hg2);clear hs1 hs2 hg2 h;go_wp2_with fail
  refine (hx _ _ _ _ _ _ HQ.o Hs2.o).mono ?_;rintro en w3 ⟨v2,rfl,hgot2,hs3,hg3⟩;have Hgot2:=zab hgot2;have Hs3:=zab hs3;have Hg3:=zab (zad Hg2.o hg3);have ho2:=hgot2.one;clear hgot2 hs3 hg3;rcases ho2.shape with rfl|⟨t2,x2,rfl⟩
  all_goals
   clear ho2;go_wp2_with fail
   go_ret
   refine ⟨_,rfl,⟨zbY _ _,fun hbad=>?_⟩,Hs3.o,Hg3.o⟩;obtain ⟨n1,hn1⟩:=(HV.o.gb Hg3.o (fun k hk=>by cases hk;exact HB.o)).rep Hi.o;obtain ⟨n2,hn2⟩:=Hgot2.o.rep hbad;exact ⟨_,zsY t (hn1.mono (fun k _ hk=>.inl hk)) (hn2.mono (fun k _ hk=>.inr (zxN Hg2.o.size hk)))⟩
theorem zg3(hx:zkt 252 sub)(hB:¬ B r)(hne:st.hd.s≠[])(hi:st.bad=none)(hv:Got B w v e st)(hq:sub st.adv=some q)(h:RS w r tb T st):
  Calls Tryz.prog 253 #[.pointer (some ⟨r,0,none⟩),v,.func (.func 252) #[.pointer (some ⟨r,0,none⟩)] #[]] w fun en w'=>∃ v2,en=.returned v2/\Got (fun b=>B b\/zat w b) w' v2 (Th.zjk st.hd e q.1) q.2/\RS w' r tb T q.2/\w.grownBy w' (some r):=by
 have hrl:=h.lt;obtain ⟨t,tk,ti,th,tm,tc⟩:=zgN h;have hth:=th hi;rw[hth]at hne ⊢;have Hw:Hid (Th.want t.s st=st.adv):=zab (by rw[Th.want,ti t.s hne];simp);have Hne:=zab hne;have HH:=zab h;have HV:=zab hv;have HQ:=zab hq;have Hi:=zab hi;have HB:=zab hB;have ho1:=hv.one;clear tk ti th tm hth hne hv hq hi hB;rcases ho1.shape with rfl|⟨t1,x1,rfl⟩
 all_goals
  clear ho1;go_enter Tryz.func253,Tryz.ntmps253
  go_wp2_with fail
  refine tc.mono ?_;rintro en w1 ⟨rfl,hb⟩;have hs1:=h.below hb;have Hb:=zab hb;clear tc hb;go_wp2_with fail
  refine (zaW hs1 ⟨t.s.toArray⟩ (by simpa using Hne.o)).mono ?_;rintro en w2 ⟨rfl,hs2,hg2⟩;rw[show Th.want (ByteArray.mk t.s.toArray).data.toList st=st.adv from Hw.o]at hs2;have Hs2:=zab hs2;have Hg2:=zab (zad (zaf _ Hb.o) hg2);clear hs1 hs2 hg2 h;go_wp2_with fail
  refine (hx _ _ _ _ _ _ HQ.o Hs2.o).mono ?_;rintro en w3 ⟨v2,rfl,hgot2,hs3,hg3⟩;have Hgot2:=zab hgot2;have Hs3:=zab hs3;have Hg3:=zab (zad Hg2.o hg3);have ho2:=hgot2.one;clear hgot2 hs3 hg3;rcases ho2.shape with rfl|⟨t2,x2,rfl⟩
  all_goals
   clear ho2;go_wp2_with fail
   go_ret
   refine ⟨_,rfl,⟨zbY _ _,fun hbad=>?_⟩,Hs3.o,Hg3.o⟩;obtain ⟨n1,hn1⟩:=(HV.o.gb Hg3.o (fun k hk=>by cases hk;exact HB.o)).rep Hi.o;obtain ⟨n2,hn2⟩:=Hgot2.o.rep hbad;exact ⟨_,zsY t (hn1.mono (fun k _ hk=>.inl hk)) (hn2.mono (fun k _ hk=>.inr (zxN Hg2.o.size hk)))⟩
end Go.Proofs.YtgahgkddaljmkaaGreatDoor
namespace Go.Proofs.YtgahgkddaljmkaaGreatDoor
open Go.RowKit
variable {st:Th.St}
theorem zqR{x:List UInt8}(h:st.is x=true):st.hd.s=x:=by
 simp[Th.St.is]at h;exact h.2
variable {sub:Th.St->Option (Th.Ex × Th.St)}
theorem zrw(hx:zkt 281 sub)(k:Nat):zkt 273 (fun st=>(sub st).bind fun r=>Th.zkj sub [42] [47] k r.1 r.2):=by
 intro st q w r tb T hq h;have hrl:=h.lt;have htl:=h.tlt;simp only[zxM]at hq;obtain ⟨q1,hq1,hq2⟩:=hq;have HQ:=zab hq2;clear hq2;go_enter Tryz.func273,Tryz.ntmps273
 go_wp2_with fail
 refine (hx _ _ _ _ _ _ hq1 h).mono ?_;rintro en w1 ⟨v,rfl,hgot,hs1,hg1⟩;have Hgot:=zab hgot;have Hs1:=zab hs1;have Hg1:=zab hg1;have hc:=hgot.one.cells;clear hgot hs1 hg1 h hq1;go_wp2_with fail
 go_loopg [3] k (fun g v wr=>∃ e1 s1,Got (zat w) wr v e1 s1/\RS wr r tb T s1/\w.grownBy wr (some r)/\Th.zkj sub [42] [47] g e1 s1=some q)
 case atStart=>exact ⟨q1.1,q1.2,Hgot.o,Hs1.o,Hg1.o,HQ.o⟩
 case round=>
  obtain ⟨e1,s1,hgot,hs,hg,hp⟩:=hrel;have Hgt:=zab hgot;have Hs:=zab hs;have Hg:=zab hg;have hz:=hg.size;clear hgot hg hc;cases gk with
  |zero=>simp[Th.zkj]at hp
  |succ g=>
   rw[Th.zkj]at hp;cases ha:s1.is [42]
   ·have Ha:=zab ha;cases hb:s1.is [47]
    ·rw[ha,hb]at hp;simp only[zzg,zys,if_false,zxL]at hp;subst hp;have Hb:=zab hb;have hc3:=Hgt.o.one.cells;clear ha hb;go_wp2_with fail
     refine (zbT hs ⟨#[42]⟩ (by simp)).mono ?_;rintro en w2 ⟨rfl,hb2⟩;rw[show s1.is (ByteArray.mk #[42]).data.toList=false from Ha.o];have hs2:=hs.below hb2;have Hb2:=zab hb2;clear hs hb2;go_wp2_with fail
     refine (zbT hs2 ⟨#[47]⟩ (by simp)).mono ?_;rintro en w3 ⟨rfl,hb3⟩;rw[show s1.is (ByteArray.mk #[47]).data.toList=false from Hb.o];have Hb3:=zab (Hb2.o.trans (hb3.mono Hb2.o.size));clear hs2 hb3;go_wp2_with fail
     go_ret
     exact ⟨u3,rfl,Hgt.o.gb (zaf none Hb3.o) (by simp),Hs.o.below Hb3.o,zad Hg.o (zaf _ Hb3.o)⟩
    ·rw[ha,hb]at hp;simp only[zzr,if_true,zxM]at hp;obtain ⟨q2,hq2,hp2⟩:=hp;have Hp2:=zab hp2;have Hq2:=zab hq2;have Hb:=zab hb;clear ha hb hp2 hq2;go_wp2_with fail
     refine (zbT hs ⟨#[42]⟩ (by simp)).mono ?_;rintro en w2 ⟨rfl,hb2⟩;rw[show s1.is (ByteArray.mk #[42]).data.toList=false from Ha.o];have hs2:=hs.below hb2;have Hb2:=zab hb2;clear hs hb2;go_wp2_with fail
     refine (zbT hs2 ⟨#[47]⟩ (by simp)).mono ?_;rintro en w3 ⟨rfl,hb3⟩;rw[show s1.is (ByteArray.mk #[47]).data.toList=true from Hb.o];have Hb3:=zab (Hb2.o.trans (hb3.mono Hb2.o.size));clear hs2 hb3;go_wp2_with fail
     refine (zf3 hx (B:=zat w) (fun hr=>by simp only[zat]at hr;omega) (by rw[zqR Hb.o];simp) (zhZ Hb.o) (Hgt.o.gb (zaf none Hb3.o) (by simp)) Hq2.o (Hs.o.below Hb3.o)).mono ?_;rintro en w4 ⟨v4,rfl,hgot4,hs4,hg4⟩;have Hgot4:=zab hgot4;have Hs4:=zab hs4;have Hg4:=zab hg4;have hc4:=hgot4.one.cells;clear hgot4 hs4 hg4;go_wp2_with fail
     go_roundg g
     case measure=>omega
     case rel=>
      refine ⟨_,q2.2,Hgot4.o.mono (fun b _ hb=>?_),Hs4.o,zad (zad Hg.o (zaf _ Hb3.o)) Hg4.o,Hp2.o⟩;rcases hb with hb|hb
      ·exact hb
      ·have:=Hb3.o.size;simp only[zat]at hb ⊢;omega
   ·have Ha:=zab ha;rw[ha]at hp;simp only[zzq,if_true,zxM]at hp;obtain ⟨q2,hq2,hp2⟩:=hp;have Hp2:=zab hp2;have Hq2:=zab hq2;clear ha hp2 hq2;go_wp2_with fail
    refine (zbT hs ⟨#[42]⟩ (by simp)).mono ?_;rintro en w2 ⟨rfl,hb3⟩;rw[show s1.is (ByteArray.mk #[42]).data.toList=true from Ha.o];have Hb3:=zab hb3;clear hs hb3;go_wp2_with fail
    refine (zf3 hx (B:=zat w) (fun hr=>by simp only[zat]at hr;omega) (by rw[zqR Ha.o];simp) (zhZ Ha.o) (Hgt.o.gb (zaf none Hb3.o) (by simp)) Hq2.o (Hs.o.below Hb3.o)).mono ?_;rintro en w4 ⟨v4,rfl,hgot4,hs4,hg4⟩;have Hgot4:=zab hgot4;have Hs4:=zab hs4;have Hg4:=zab hg4;have hc4:=hgot4.one.cells;clear hgot4 hs4 hg4;go_wp2_with fail
    go_roundg g
    case measure=>omega
    case rel=>
     refine ⟨_,q2.2,Hgot4.o.mono (fun b _ hb=>?_),Hs4.o,zad (zad Hg.o (zaf _ Hb3.o)) Hg4.o,Hp2.o⟩;rcases hb with hb|hb
     ·exact hb
     ·have:=Hb3.o.size;simp only[zat]at hb ⊢;omega
theorem zxe(hx:zkt 273 sub)(k:Nat):zkt 252 (fun st=>(sub st).bind fun r=>Th.zkj sub [43] [45] k r.1 r.2):=by
 intro st q w r tb T hq h;have hrl:=h.lt;have htl:=h.tlt;simp only[zxM]at hq;obtain ⟨q1,hq1,hq2⟩:=hq;have HQ:=zab hq2;clear hq2;go_enter Tryz.func252,Tryz.ntmps252
 go_wp2_with fail
 refine (hx _ _ _ _ _ _ hq1 h).mono ?_;rintro en w1 ⟨v,rfl,hgot,hs1,hg1⟩;have Hgot:=zab hgot;have Hs1:=zab hs1;have Hg1:=zab hg1;have hc:=hgot.one.cells;clear hgot hs1 hg1 h hq1;go_wp2_with fail
 go_loopg [3] k (fun g v wr=>∃ e1 s1,Got (zat w) wr v e1 s1/\RS wr r tb T s1/\w.grownBy wr (some r)/\Th.zkj sub [43] [45] g e1 s1=some q)
 case atStart=>exact ⟨q1.1,q1.2,Hgot.o,Hs1.o,Hg1.o,HQ.o⟩
 case round=>
  obtain ⟨e1,s1,hgot,hs,hg,hp⟩:=hrel;have Hgt:=zab hgot;have Hs:=zab hs;have Hg:=zab hg;have hz:=hg.size;clear hgot hg hc;cases gk with
  |zero=>simp[Th.zkj]at hp
  |succ g=>
   rw[Th.zkj]at hp;cases ha:s1.is [43]
   ·have Ha:=zab ha;cases hb:s1.is [45]
    ·rw[ha,hb]at hp;simp only[zzg,zys,if_false,zxL]at hp;subst hp;have Hb:=zab hb;have hc3:=Hgt.o.one.cells;clear ha hb;go_wp2_with fail
     refine (zbT hs ⟨#[43]⟩ (by simp)).mono ?_;rintro en w2 ⟨rfl,hb2⟩;rw[show s1.is (ByteArray.mk #[43]).data.toList=false from Ha.o];have hs2:=hs.below hb2;have Hb2:=zab hb2;clear hs hb2;go_wp2_with fail
     refine (zbT hs2 ⟨#[45]⟩ (by simp)).mono ?_;rintro en w3 ⟨rfl,hb3⟩;rw[show s1.is (ByteArray.mk #[45]).data.toList=false from Hb.o];have Hb3:=zab (Hb2.o.trans (hb3.mono Hb2.o.size));clear hs2 hb3;go_wp2_with fail
     go_ret
     exact ⟨u3,rfl,Hgt.o.gb (zaf none Hb3.o) (by simp),Hs.o.below Hb3.o,zad Hg.o (zaf _ Hb3.o)⟩
    ·rw[ha,hb]at hp;simp only[zzr,if_true,zxM]at hp;obtain ⟨q2,hq2,hp2⟩:=hp;have Hp2:=zab hp2;have Hq2:=zab hq2;have Hb:=zab hb;clear ha hb hp2 hq2;go_wp2_with fail
     refine (zbT hs ⟨#[43]⟩ (by simp)).mono ?_;rintro en w2 ⟨rfl,hb2⟩;rw[show s1.is (ByteArray.mk #[43]).data.toList=false from Ha.o];have hs2:=hs.below hb2;have Hb2:=zab hb2;clear hs hb2;go_wp2_with fail
     refine (zbT hs2 ⟨#[45]⟩ (by simp)).mono ?_;rintro en w3 ⟨rfl,hb3⟩;rw[show s1.is (ByteArray.mk #[45]).data.toList=true from Hb.o];have Hb3:=zab (Hb2.o.trans (hb3.mono Hb2.o.size));clear hs2 hb3;go_wp2_with fail
     refine (zdU hx (B:=zat w) (fun hr=>by simp only[zat]at hr;omega) (by rw[zqR Hb.o];simp) (zhZ Hb.o) (Hgt.o.gb (zaf none Hb3.o) (by simp)) Hq2.o (Hs.o.below Hb3.o)).mono ?_;rintro en w4 ⟨v4,rfl,hgot4,hs4,hg4⟩;have Hgot4:=zab hgot4;have Hs4:=zab hs4;have Hg4:=zab hg4;have hc4:=hgot4.one.cells;clear hgot4 hs4 hg4;go_wp2_with fail
     go_roundg g
     case measure=>omega
     case rel=>
      refine ⟨_,q2.2,Hgot4.o.mono (fun b _ hb=>?_),Hs4.o,zad (zad Hg.o (zaf _ Hb3.o)) Hg4.o,Hp2.o⟩;rcases hb with hb|hb
      ·exact hb
      ·have:=Hb3.o.size;simp only[zat]at hb ⊢;omega
   ·have Ha:=zab ha;rw[ha]at hp;simp only[zzq,if_true,zxM]at hp;obtain ⟨q2,hq2,hp2⟩:=hp;have Hp2:=zab hp2;have Hq2:=zab hq2;clear ha hp2 hq2;go_wp2_with fail
    refine (zbT hs ⟨#[43]⟩ (by simp)).mono ?_;rintro en w2 ⟨rfl,hb3⟩;rw[show s1.is (ByteArray.mk #[43]).data.toList=true from Ha.o];have Hb3:=zab hb3;clear hs hb3;go_wp2_with fail
    refine (zdU hx (B:=zat w) (fun hr=>by simp only[zat]at hr;omega) (by rw[zqR Ha.o];simp) (zhZ Ha.o) (Hgt.o.gb (zaf none Hb3.o) (by simp)) Hq2.o (Hs.o.below Hb3.o)).mono ?_;rintro en w4 ⟨v4,rfl,hgot4,hs4,hg4⟩;have Hgot4:=zab hgot4;have Hs4:=zab hs4;have Hg4:=zab hg4;have hc4:=hgot4.one.cells;clear hgot4 hs4 hg4;go_wp2_with fail
    go_roundg g
    case measure=>omega
    case rel=>
     refine ⟨_,q2.2,Hgot4.o.mono (fun b _ hb=>?_),Hs4.o,zad (zad Hg.o (zaf _ Hb3.o)) Hg4.o,Hp2.o⟩;rcases hb with hb|hb
     ·exact hb
     ·have:=Hb3.o.size;simp only[zat]at hb ⊢;omega
theorem zuF(hx:zkt 252 sub):zkt 196 (fun st=>(sub st).bind fun r=>
  if r.2.is [61,61]||r.2.is [60] then (sub r.2.adv).bind fun q=>some (Th.zjk r.2.hd r.1 q.1,q.2) else some r):=by
 intro st q w r tb T hq h;have hrl:=h.lt;have htl:=h.tlt;simp only[zxM]at hq;obtain ⟨q1,hq1,hq2⟩:=hq;have HQ:=zab hq2;clear hq2;go_enter Tryz.func196,Tryz.ntmps196
 go_wp2_with fail
 refine (hx _ _ _ _ _ _ hq1 h).mono ?_;rintro en w1 ⟨v,rfl,hgot,hs,hg⟩;have Hgt:=zab hgot;have Hs:=zab hs;have Hg:=zab hg;have hc:=hgot.one.cells;have hz:=hg.size;clear hgot hg h hq1;cases ha:q1.2.is [61,61]
 ·have Ha:=zab ha;cases hb:q1.2.is [60]
  ·have hp:=HQ.o;rw[ha,hb]at hp;simp only[zzg,zys,if_false,zxL]at hp;subst hp;have Hb:=zab hb;clear ha hb;go_wp2_with fail
   refine (zbT hs ⟨#[61,61]⟩ (by simp)).mono ?_;rintro en w2 ⟨rfl,hb2⟩;rw[show q1.2.is (ByteArray.mk #[61,61]).data.toList=false from Ha.o];have hs2:=hs.below hb2;have Hb2:=zab hb2;clear hs hb2;go_wp2_with fail
   refine (zbT hs2 ⟨#[60]⟩ (by simp)).mono ?_;rintro en w3 ⟨rfl,hb3⟩;rw[show q1.2.is (ByteArray.mk #[60]).data.toList=false from Hb.o];have Hb3:=zab (Hb2.o.trans (hb3.mono Hb2.o.size));clear hs2 hb3;go_wp2_with fail
   go_ret
   exact ⟨v,rfl,Hgt.o.gb (zaf none Hb3.o) (by simp),Hs.o.below Hb3.o,zad Hg.o (zaf _ Hb3.o)⟩
  ·have hp:=HQ.o;rw[ha,hb]at hp;simp only[zzr,if_true,zxM,zxL]at hp;obtain ⟨q2,hq2,hp2⟩:=hp;subst hp2;have Hq2:=zab hq2;have Hb:=zab hb;clear ha hb hq2;go_wp2_with fail
   refine (zbT hs ⟨#[61,61]⟩ (by simp)).mono ?_;rintro en w2 ⟨rfl,hb2⟩;rw[show q1.2.is (ByteArray.mk #[61,61]).data.toList=false from Ha.o];have hs2:=hs.below hb2;have Hb2:=zab hb2;clear hs hb2;go_wp2_with fail
   refine (zbT hs2 ⟨#[60]⟩ (by simp)).mono ?_;rintro en w3 ⟨rfl,hb3⟩;rw[show q1.2.is (ByteArray.mk #[60]).data.toList=true from Hb.o];have Hb3:=zab (Hb2.o.trans (hb3.mono Hb2.o.size));clear hs2 hb3;go_wp2_with fail
   refine (zg3 hx (B:=zat w) (fun hr=>by simp only[zat]at hr;omega) (by rw[zqR Hb.o];simp) (zhZ Hb.o) (Hgt.o.gb (zaf none Hb3.o) (by simp)) Hq2.o (Hs.o.below Hb3.o)).mono ?_;rintro en w4 ⟨v4,rfl,hgot4,hs4,hg4⟩;have Hgot4:=zab hgot4;have Hs4:=zab hs4;have Hg4:=zab hg4;have hc4:=hgot4.one.cells;clear hgot4 hs4 hg4;go_wp2_with fail
   go_ret
   refine ⟨v4,rfl,Hgot4.o.mono (fun b _ hb=>?_),Hs4.o,zad (zad Hg.o (zaf _ Hb3.o)) Hg4.o⟩;rcases hb with hb|hb
   ·exact hb
   ·have:=Hb3.o.size;simp only[zat]at hb ⊢;omega
 ·have Ha:=zab ha;have hp:=HQ.o;rw[ha]at hp;simp only[zzq,if_true,zxM,zxL]at hp;obtain ⟨q2,hq2,hp2⟩:=hp;subst hp2;have Hq2:=zab hq2;clear ha hq2;go_wp2_with fail
  refine (zbT hs ⟨#[61,61]⟩ (by simp)).mono ?_;rintro en w2 ⟨rfl,hb3⟩;rw[show q1.2.is (ByteArray.mk #[61,61]).data.toList=true from Ha.o];have Hb3:=zab hb3;clear hs hb3;go_wp2_with fail
  refine (zg3 hx (B:=zat w) (fun hr=>by simp only[zat]at hr;omega) (by rw[zqR Ha.o];simp) (zhZ Ha.o) (Hgt.o.gb (zaf none Hb3.o) (by simp)) Hq2.o (Hs.o.below Hb3.o)).mono ?_;rintro en w4 ⟨v4,rfl,hgot4,hs4,hg4⟩;have Hgot4:=zab hgot4;have Hs4:=zab hs4;have Hg4:=zab hg4;have hc4:=hgot4.one.cells;clear hgot4 hs4 hg4;go_wp2_with fail
  go_ret
  refine ⟨v4,rfl,Hgot4.o.mono (fun b _ hb=>?_),Hs4.o,zad (zad Hg.o (zaf _ Hb3.o)) Hg4.o⟩;rcases hb with hb|hb
  ·exact hb
  ·have:=Hb3.o.size;simp only[zat]at hb ⊢;omega
variable {ex:Th.Rd}
theorem zwG(hx:zr0 ex)(k:Nat):zkt 196 (Th.zjg ex k):=
 zuF (zxe (zrw (sub:=Th.zhH ex k) (fun _ _ _ _ _ _ hq h=>zwr hx hq h) k) k)
variable {w:World}
variable {r tb:Nat}
variable {T:List Th.Tok}
variable {q:Th.Ex × Th.St}
theorem zsi(hx:zr0 ex)(hq:ex true (Th.want [61] (Th.zaK st).2)=some q)(h:RS w r tb T st):
  Calls Tryz.prog 249 #[.pointer (some ⟨r,0,none⟩)] w fun en w'=>
   ∃ v,en=.returned (.agg #[.string ⟨(Th.zaK st).1.s.toArray⟩,.int .i64 (Th.zaK st).1.at_,v])/\Got (zat w) w' v q.1 q.2/\RS w' r tb T q.2/\w.grownBy w' (some r):=by
 have hrl:=h.lt;have htl:=h.tlt;have HQ:=zab hq;have h0:=h.alloc (.cells #[.string ⟨#[]⟩,.int .i64 0,.nilIface] 312);have BR:=zab (Blk.new w [.string ⟨#[]⟩,.int .i64 0,.nilIface] 312);have HG0:=zab (zag w (.cells #[.string ⟨#[]⟩,.int .i64 0,.nilIface] 312) (some r));clear hq h;go_enter Tryz.func249,Tryz.ntmps249
 go_wp2_with fail
 refine (zgH h0).mono ?_;rintro e w1 ⟨rfl,hs1,hg1⟩;obtain ⟨⟨x,s1⟩,hxs⟩:∃ y,Th.zaK st=y:=⟨_,rfl⟩;rw[hxs]at hs1 HQ ⊢;have Hs1:=zab (hs1.alloc (.cells #[.string ⟨x.s.toArray⟩,.int .i64 x.at_,.nilIface] 312));have HG1:=zab (zad (zad HG0.o hg1) (zag w1 (.cells #[.string ⟨x.s.toArray⟩,.int .i64 x.at_,.nilIface] 312) (some r)));have hz1:w.heap.size<w1.heap.size:=by have:=hg1.size;simp at this;omega
 have B1:=zab (Blk.new w1 [.string ⟨x.s.toArray⟩,.int .i64 x.at_,.nilIface] 312);have BR1:=zab ((BR.o.grown hg1 (by simp;omega)).alloc (.cells #[.string ⟨x.s.toArray⟩,.int .i64 x.at_,.nilIface] 312));have Hxs:=zab hxs;clear h0 hs1 hg1 hxs;go_wp2_with fail
 refine (zaW Hs1.o ⟨#[61]⟩ (by simp)).mono ?_;rintro e w2 ⟨rfl,hs2,hg2⟩;have HG2:=zab (zad HG1.o hg2);have B2:=zab (B1.o.grown hg2 (by simp;omega));have BR2:=zab (BR1.o.grown hg2 (by simp;omega));clear hg2;go_wp2_with fail
 refine (hx _ _ _ _ _ _ _ HQ.o hs2).mono ?_;rintro e w3 ⟨v,rfl,hgot,hs3,hg3⟩;have B3:=B2.o.grown hg3 (by simp;omega);have BR3:=BR2.o.grown hg3 (by simp;omega);have c0:=B3.cell 0;have c1:=B3.cell 1;have c2:=B3.cell 2;have f2:=B3.frozen 2;have d0:=BR3.cell 0;have d1:=BR3.cell 1;have d2:=BR3.cell 2;have g0:=BR3.frozen 0;have g1:=BR3.frozen 1;have g2:=BR3.frozen 2;simp at c0 c1 c2 d0 d1 d2;have HG3:=zab (zad HG2.o hg3);have hl1:=B3.lt;have HB3:=zab B3;have HBR3:=zab BR3;have Hs3:=zab hs3;have ho:=hgot.one;have Hgot:=zab (hgot.mono (S':=fun b=>zat w b/\b≠w1.heap.size/\b≠w.heap.size) (fun k _ hk=>by
  have h1:=HG2.o.size;have h2:=B2.o.lt;simp only[zat]at hk ⊢;omega))
 have B4:=zab (((((BR3.other ⟨w1.heap.size,2,none⟩ v (by simp;omega)).set 0 (.string ⟨x.s.toArray⟩)).set 1 (.int .i64 x.at_)).set 2 v));have FIN:=zab (And.intro
  ((((((Hgot.o.gb (zaS w3 w1.heap.size 2 v) (by simp)).gb (zaS _ w.heap.size 0 (.string ⟨x.s.toArray⟩)) (by simp)).gb (zaS _ w.heap.size 1 (.int .i64 x.at_)) (by simp)).gb (zaS _ w.heap.size 2 v) (by simp))).mono (S':=zat w) (fun k _ hk=>hk.1))
  (And.intro ((((Hs3.o.set w1.heap.size 2 v (by omega) (by omega)).set w.heap.size 0 (.string ⟨x.s.toArray⟩) (by omega) (by omega)).set w.heap.size 1 (.int .i64 x.at_) (by omega) (by omega)).set w.heap.size 2 v (by omega) (by omega))
   (zap (zap (zap (zap HG3.o ⟨w1.heap.size,2,none⟩ v (zze hz1)) ⟨w.heap.size,0,none⟩ (.string ⟨x.s.toArray⟩) (zxJ _)) ⟨w.heap.size,1,none⟩ (.int .i64 x.at_) (zxJ _)) ⟨w.heap.size,2,none⟩ v (zxJ _))))
 clear hs2 hg3 B3 BR3 hs3 hgot Hgot;rcases ho.shape with rfl|⟨t1,x1,rfl⟩
 all_goals
  clear ho;go_wp2_with fail
  have p0:=B4.o.cell 0;have p1:=B4.o.cell 1;have p2:=B4.o.cell 2;simp at p0 p1 p2;refine bodyPost_ret (by simp[results,Tryz.results249,go_sem,p0,p1,p2];rfl) rfl ⟨_,by rw[Hxs.o],FIN.o⟩
variable {S:Nat->Prop}
variable {n:Nat}
variable {v:Value}
theorem zan{e:TypeId}{size:Nat}{xs:List Value}(h:Row S w e size v n xs):v=.slice none 0 0\/∃ g cap,v=.slice (some ⟨g,0,none⟩) n cap:=by
 rcases h.1.2 with ⟨h,_⟩|⟨g,cap,cur,h,_⟩
 ·exact .inl h
 ·exact .inr ⟨g,cap,h⟩
theorem zwx{w7:World}{b1:Nat}{nv:Value}{x:Th.Ex}{s:Th.St}{vs:List Value}{l:List Th.Tok}(tg:Nat)(hb:Blk w7 w.heap.size [.int .i64 0,.slice none 0 0,.nilIface] 240)(hr:Row (fun b=>zat w b/\b≠b1/\b≠w.heap.size) w7 88 2 nv l.length vs)(hg:Got (fun b=>zat w b/\b≠b1/\b≠w.heap.size) w7 v x s)(hs:RS w7 r tb T s)(hG:w.grownBy w7 (some r))(hz:w.heap.size<b1)(hrl:r<w.heap.size)(htl:tb<w.heap.size):
  Blk ((((w7.setCell ⟨b1,2,none⟩ v).setCell ⟨w.heap.size,0,none⟩ (.int .i64 tg)).setCell ⟨w.heap.size,1,none⟩ nv).setCell ⟨w.heap.size,2,none⟩ v) w.heap.size [.int .i64 tg,nv,v] 240 /\
  Row (zat w) ((((w7.setCell ⟨b1,2,none⟩ v).setCell ⟨w.heap.size,0,none⟩ (.int .i64 tg)).setCell ⟨w.heap.size,1,none⟩ nv).setCell ⟨w.heap.size,2,none⟩ v) 88 2 nv l.length vs /\
  Got (zat w) ((((w7.setCell ⟨b1,2,none⟩ v).setCell ⟨w.heap.size,0,none⟩ (.int .i64 tg)).setCell ⟨w.heap.size,1,none⟩ nv).setCell ⟨w.heap.size,2,none⟩ v) v x s /\
  RS ((((w7.setCell ⟨b1,2,none⟩ v).setCell ⟨w.heap.size,0,none⟩ (.int .i64 tg)).setCell ⟨w.heap.size,1,none⟩ nv).setCell ⟨w.heap.size,2,none⟩ v) r tb T s /\
  w.grownBy ((((w7.setCell ⟨b1,2,none⟩ v).setCell ⟨w.heap.size,0,none⟩ (.int .i64 tg)).setCell ⟨w.heap.size,1,none⟩ nv).setCell ⟨w.heap.size,2,none⟩ v) (some r):=by
 refine ⟨?_,?_,?_,?_,?_⟩
 ·exact (((hb.other ⟨b1,2,none⟩ v (by simp;omega)).set 0 (.int .i64 tg)).set 1 nv).set 2 v
 ·exact ((((hr.gb (zaS _ _ _ _) (by simp)).gb (zaS _ _ _ _) (by simp)).gb (zaS _ _ _ _) (by simp)).gb (zaS _ _ _ _) (by simp)).mono (fun k _ hk=>hk.1)
 ·exact ((((hg.gb (zaS _ _ _ _) (by simp)).gb (zaS _ _ _ _) (by simp)).gb (zaS _ _ _ _) (by simp)).gb (zaS _ _ _ _) (by simp)).mono (fun k _ hk=>hk.1)
 ·exact (((hs.set _ _ _ (by omega) (by omega)).set _ _ _ (by omega) (by omega)).set _ _ _ (by omega) (by omega)).set _ _ _ (by omega) (by omega)
 ·exact zap (zap (zap (zap hG _ _ (zze hz)) _ _ (zxJ _)) _ _ (zxJ _)) _ _ (zxJ _)
theorem zv3(hx:zr0 ex){c:Bool}{q:(Nat × List Th.Tok) × Th.Ex × Th.St}(hq:Th.ztY ex c st=some q)(h:RS w r tb T st):
  Calls Tryz.prog 250 #[.pointer (some ⟨r,0,none⟩),.bool c] w fun en w'=>
   ∃ nv v,en=.returned (.agg #[.int .i64 q.1.1,nv,v])/\Row (zat w) w' 88 2 nv q.1.2.length (zaj q.1.2)/\Got (zat w) w' v q.2.1 q.2.2/\RS w' r tb T q.2.2/\w.grownBy w' (some r):=by
 have hrl:=h.lt;have htl:=h.tlt;unfold Th.ztY at hq;simp only[zxM,zxL]at hq;obtain ⟨q1,hq1,rfl⟩:=hq;generalize ht0:Th.zaA 1 99 (Th.want [60] st)=tg at hq1 ⊢;generalize hl0:Th.zax (Th.want [62] tg.2)=ln at hq1 ⊢;have HQ:=zab hq1;have HT0:=zab ht0;have HL0:=zab hl0;have h0:=h.alloc (.cells #[.int .i64 0,.slice none 0 0,.nilIface] 240);have BR:=zab (Blk.new w [.int .i64 0,.slice none 0 0,.nilIface] 240);have HG0:=zab (zag w (.cells #[.int .i64 0,.slice none 0 0,.nilIface] 240) (some r));clear hq1 h ht0 hl0;go_enter Tryz.func250,Tryz.ntmps250
 go_wp2_with fail
 refine (zaW h0 ⟨#[60]⟩ (by simp)).mono ?_;rintro e w1 ⟨rfl,hs1,hg1⟩;have HG1:=zab (zad HG0.o hg1);have BR1:=zab (BR.o.grown hg1 (by simp;omega));clear h0 hg1;go_wp2_with fail
 refine (zuf hs1).mono ?_;rintro e w2 ⟨rfl,hs2,hg2⟩;rw[show Th.zaA 1 99 (Th.want (ByteArray.mk #[60]).data.toList st)=tg from HT0.o]at hs2 ⊢;have hz2:w.heap.size<w2.heap.size:=by have h1:=BR1.o.lt;have h2:=hg2.size;omega
 have HG2:=zab (zad (zad HG1.o hg2) (zag w2 (.cells #[.int .i64 tg.1,.slice none 0 0,.nilIface] 240) (some r)));have BR2:=zab ((BR1.o.grown hg2 (by simp;omega)).alloc (.cells #[.int .i64 tg.1,.slice none 0 0,.nilIface] 240));have B2:=zab (Blk.new w2 [.int .i64 tg.1,.slice none 0 0,.nilIface] 240);have Hs2:=zab (hs2.alloc (.cells #[.int .i64 tg.1,.slice none 0 0,.nilIface] 240));clear hs1 hs2 hg2;go_wp2_with fail
 refine (zaW Hs2.o ⟨#[62]⟩ (by simp)).mono ?_;rintro e w3 ⟨rfl,hs3,hg3⟩;have HG3:=zab (zad HG2.o hg3);have BR3:=zab (BR2.o.grown hg3 (by simp;omega));have B3:=zab (B2.o.grown hg3 (by simp;omega));clear hg3;go_wp2_with fail
 refine (znv hs3).mono ?_;rintro e w4 ⟨nv,rfl,hrow,hs4,hg4⟩;rw[show Th.zax (Th.want (ByteArray.mk #[62]).data.toList tg.2)=ln from HL0.o]at hrow hs4;have hz3:=HG3.o.size;have hb3:=B3.o.lt;have hR:Row (fun b=>zat w b/\b≠w2.heap.size/\b≠w.heap.size) w4 88 2 nv ln.1.length (zaj ln.1):=(Row.zaE hrow).mono (fun k _ hk=>by simp only[zat];omega);have HG4:=zab (zad HG3.o hg4);have BR4:=BR3.o.grown hg4 (by simp;omega);have B4:=B3.o.grown hg4 (by simp;omega);have c1:=B4.cell 1;have f1:=B4.frozen 1;simp at c1;have hl4:=B4.lt;have BR5:=zab (BR4.other ⟨w2.heap.size,1,none⟩ nv (by simp;omega));have B5:=zab (B4.set 1 nv);have Hs5:=zab (hs4.set w2.heap.size 1 nv (by omega) (by omega));have HG5:=zab (zap HG4.o ⟨w2.heap.size,1,none⟩ nv (zze hz2));have HR5:=zab (hR.gb (zaS w4 w2.heap.size 1 nv) (by simp));have hsh:=zan hR;clear hs3 hs4 hg4 hrow hR BR4 B4;rcases hsh with rfl|⟨gn,capn,rfl⟩
 all_goals
  go_wp2_with fail
  refine (zaW Hs5.o ⟨#[45,62]⟩ (by simp)).mono ?_;rintro e w6 ⟨rfl,hs6,hg6⟩;have HG6:=zab (zad HG5.o hg6);have BR6:=zab (BR5.o.grown hg6 (by simp;omega));have B6:=zab (B5.o.grown hg6 (by simp;omega));have HR6:=zab (HR5.o.gb hg6 (fun k hk=>by cases hk;simp only[zat];omega));clear hg6 c1 f1;go_wp2_with fail
  refine (hx _ _ _ _ _ _ _ HQ.o hs6).mono ?_;rintro e w7 ⟨v,rfl,hgot,hs7,hg7⟩;have BR7:=BR6.o.grown hg7 (by simp;omega);have B7:=B6.o.grown hg7 (by simp;omega);have c0:=B7.cell 0;have c1:=B7.cell 1;have c2:=B7.cell 2;have f2:=B7.frozen 2;have d0:=BR7.cell 0;have d1:=BR7.cell 1;have d2:=BR7.cell 2;have g0:=BR7.frozen 0;have g1:=BR7.frozen 1;have g2:=BR7.frozen 2;simp at c0 c1 c2 d0 d1 d2;have HG7:=zab (zad HG6.o hg7);have HR7:=zab (HR6.o.gb hg7 (fun k hk=>by cases hk;simp only[zat];omega));have hl7:=B7.lt;have Hgot:=zab (hgot.mono (S':=fun b=>zat w b/\b≠w2.heap.size/\b≠w.heap.size) (fun k _ hk=>by
   have h1:=HG6.o.size;have h2:=B6.o.lt;simp only[zat]at hk ⊢;omega))
  have ho:=hgot.one;have Hs7:=zab hs7;have HB7:=zab B7;have HBR7:=zab BR7;clear hs6 hg7 hgot hs7 B7 BR7;rcases ho.shape with rfl|⟨t1,x1,rfl⟩
  all_goals
   clear ho;have FIN:=zab (zwx tg.1 HBR7.o HR7.o Hgot.o Hs7.o HG7.o hz2 hrl htl);go_wp2_with fail
   have p0:=FIN.o.1.cell 0;have p1:=FIN.o.1.cell 1;have p2:=FIN.o.1.cell 2;simp at p0 p1 p2;refine bodyPost_ret (by simp[results,Tryz.results250,go_sem,p0,p1,p2]) rfl ⟨_,_,rfl,FIN.o.2⟩
theorem zuP{w7:World}{b1:Nat}{nv:Value}{x:Th.Ex}{s:Th.St}{vs:List Value}{l:List Th.Tok}{t:TypeId}(nm:ByteArray)(at_:Int)(hb:Blk w7 w.heap.size [.string ⟨#[]⟩,.int .i64 0,.slice none 0 0,.nilIface] t)(hr:Row (fun b=>zat w b/\b≠b1/\b≠w.heap.size) w7 88 2 nv l.length vs)(hg:Got (fun b=>zat w b/\b≠b1/\b≠w.heap.size) w7 v x s)(hs:RS w7 r tb T s)(hG:w.grownBy w7 (some r))(hrl:r<w.heap.size)(htl:tb<w.heap.size):
  Blk ((((w7.setCell ⟨w.heap.size,0,none⟩ (.string nm)).setCell ⟨w.heap.size,1,none⟩ (.int .i64 at_)).setCell ⟨w.heap.size,2,none⟩ nv).setCell ⟨w.heap.size,3,none⟩ v) w.heap.size [.string nm,.int .i64 at_,nv,v] t /\
  Row (zat w) ((((w7.setCell ⟨w.heap.size,0,none⟩ (.string nm)).setCell ⟨w.heap.size,1,none⟩ (.int .i64 at_)).setCell ⟨w.heap.size,2,none⟩ nv).setCell ⟨w.heap.size,3,none⟩ v) 88 2 nv l.length vs /\
  Got (zat w) ((((w7.setCell ⟨w.heap.size,0,none⟩ (.string nm)).setCell ⟨w.heap.size,1,none⟩ (.int .i64 at_)).setCell ⟨w.heap.size,2,none⟩ nv).setCell ⟨w.heap.size,3,none⟩ v) v x s /\
  RS ((((w7.setCell ⟨w.heap.size,0,none⟩ (.string nm)).setCell ⟨w.heap.size,1,none⟩ (.int .i64 at_)).setCell ⟨w.heap.size,2,none⟩ nv).setCell ⟨w.heap.size,3,none⟩ v) r tb T s /\
  w.grownBy ((((w7.setCell ⟨w.heap.size,0,none⟩ (.string nm)).setCell ⟨w.heap.size,1,none⟩ (.int .i64 at_)).setCell ⟨w.heap.size,2,none⟩ nv).setCell ⟨w.heap.size,3,none⟩ v) (some r):=by
 refine ⟨?_,?_,?_,?_,?_⟩
 ·exact (((hb.set 0 (.string nm)).set 1 (.int .i64 at_)).set 2 nv).set 3 v
 ·exact ((((hr.gb (zaS _ _ _ _) (by simp)).gb (zaS _ _ _ _) (by simp)).gb (zaS _ _ _ _) (by simp)).gb (zaS _ _ _ _) (by simp)).mono (fun k _ hk=>hk.1)
 ·exact ((((hg.gb (zaS _ _ _ _) (by simp)).gb (zaS _ _ _ _) (by simp)).gb (zaS _ _ _ _) (by simp)).gb (zaS _ _ _ _) (by simp)).mono (fun k _ hk=>hk.1)
 ·exact (((hs.set _ _ _ (by omega) (by omega)).set _ _ _ (by omega) (by omega)).set _ _ _ (by omega) (by omega)).set _ _ _ (by omega) (by omega)
 ·exact zap (zap (zap (zap hG _ _ (zxJ _)) _ _ (zxJ _)) _ _ (zxJ _)) _ _ (zxJ _)
theorem zpR(hx:zr0 ex){q:Th.zbq × Th.St}(hq:Th.zmx ex st=some q)(h:RS w r tb T st):
  Calls Tryz.prog 68 #[.pointer (some ⟨r,0,none⟩)] w fun en w'=>
   ∃ nv v,en=.returned (.agg #[.string ⟨q.1.name.s.toArray⟩,.int .i64 q.1.name.at_,nv,v])/\Row (zat w) w' 88 2 nv q.1.params.length (zaj q.1.params)/\Got (zat w) w' v q.1.e q.2/\RS w' r tb T q.2/\w.grownBy w' (some r):=by
 have hrl:=h.lt;have htl:=h.tlt;unfold Th.zmx at hq;simp only[zxM,zxL]at hq;obtain ⟨q1,hq1,rfl⟩:=hq;generalize ht0:Th.zaK st=tg at hq1 ⊢;generalize hl0:Th.zax tg.2=ln at hq1 ⊢;have HQ:=zab hq1;have HT0:=zab ht0;have HL0:=zab hl0;have h0:=h.alloc (.cells #[.string ⟨#[]⟩,.int .i64 0,.slice none 0 0,.nilIface] 93);have BR:=zab (Blk.new w [.string ⟨#[]⟩,.int .i64 0,.slice none 0 0,.nilIface] 93);have HG0:=zab (zag w (.cells #[.string ⟨#[]⟩,.int .i64 0,.slice none 0 0,.nilIface] 93) (some r));clear hq1 h ht0 hl0;go_enter Tryz.func68,Tryz.ntmps68
 go_wp2_with fail
 refine (zgH h0).mono ?_;rintro e w1 ⟨rfl,hs1,hg1⟩;rw[HT0.o]at hs1 ⊢;have HG1:=zab (zad HG0.o hg1);have BR1:=zab (BR.o.grown hg1 (by simp;omega));clear h0 hg1;go_wp2_with fail
 refine (znv hs1).mono ?_;rintro e w4 ⟨nv,rfl,hrow,hs4,hg4⟩;rw[HL0.o]at hrow hs4;have hz1:=BR1.o.lt;have hz4:=hg4.size;have hR:Row (fun b=>zat w b/\b≠w4.heap.size/\b≠w.heap.size) w4 88 2 nv ln.1.length (zaj ln.1):=(Row.zaE hrow).mono (fun k hk1 hk=>by simp only[zat];omega);have HG4:=zab (zad (zad HG1.o hg4) (zag w4 (.cells #[.string ⟨tg.1.s.toArray⟩,.int .i64 tg.1.at_,nv,.nilIface] 93) (some r)));have BR4:=zab ((BR1.o.grown hg4 (by simp;omega)).alloc (.cells #[.string ⟨tg.1.s.toArray⟩,.int .i64 tg.1.at_,nv,.nilIface] 93));have B4:=zab (Blk.new w4 [.string ⟨tg.1.s.toArray⟩,.int .i64 tg.1.at_,nv,.nilIface] 93);have Hs4:=zab (hs4.alloc (.cells #[.string ⟨tg.1.s.toArray⟩,.int .i64 tg.1.at_,nv,.nilIface] 93));have HR4:=zab (hR.gb (zag w4 (.cells #[.string ⟨tg.1.s.toArray⟩,.int .i64 tg.1.at_,nv,.nilIface] 93) none) (by simp));have hsh:=zan hR;clear hs1 hs4 hg4 hrow hR;rcases hsh with rfl|⟨gn,capn,rfl⟩
 all_goals
  go_wp2_with fail
  refine (zaW Hs4.o ⟨#[61]⟩ (by simp)).mono ?_;rintro e w6 ⟨rfl,hs6,hg6⟩;have HG6:=zab (zad HG4.o hg6);have BR6:=zab (BR4.o.grown hg6 (by simp;omega));have B6:=zab (B4.o.grown hg6 (by simp;omega));have HR6:=zab (HR4.o.gb hg6 (fun k hk=>by cases hk;simp only[zat];omega));clear hg6;go_wp2_with fail
  refine (hx _ _ _ _ _ _ _ HQ.o hs6).mono ?_;rintro e w7 ⟨v,rfl,hgot,hs7,hg7⟩;have BR7:=BR6.o.grown hg7 (by simp;omega);have B7:=B6.o.grown hg7 (by simp;omega);have c3:=B7.cell 3;have f3:=B7.frozen 3;simp at c3;have HG7:=zab (zap (zad HG6.o hg7) ⟨w4.heap.size,3,none⟩ v (by simp;omega));have HR7:=zab ((HR6.o.gb hg7 (fun k hk=>by cases hk;simp only[zat];omega)).gb (zaS w7 w4.heap.size 3 v) (by simp));have hl7:=B7.lt;have Hgot:=zab ((hgot.mono (S':=fun b=>zat w b/\b≠w4.heap.size/\b≠w.heap.size) (fun k _ hk=>by
   have h1:=HG6.o.size;have h2:=B6.o.lt;simp only[zat]at hk ⊢;omega)).gb (zaS w7 w4.heap.size 3 v) (by simp))
  have ho:=hgot.one;have Hs7:=zab (hs7.set w4.heap.size 3 v (by omega) (by omega));have HB7:=zab (B7.set 3 v);have HBR7:=zab (BR7.other ⟨w4.heap.size,3,none⟩ v (by simp;omega));clear hs6 hg7 hgot hs7 B7 BR7;rcases ho.shape with rfl|⟨t1,x1,rfl⟩
  all_goals
   clear ho;go_wp2_with fail
   refine (zaW Hs7.o ⟨#[59]⟩ (by simp)).mono ?_;rintro e w8 ⟨rfl,hs8,hg8⟩;have BR8:=HBR7.o.grown hg8 (by simp;omega);have B8:=HB7.o.grown hg8 (by simp;omega);have d0:=BR8.cell 0;have d1:=BR8.cell 1;have d2:=BR8.cell 2;have d3:=BR8.cell 3;have g0:=BR8.frozen 0;have g1:=BR8.frozen 1;have g2:=BR8.frozen 2;have g3:=BR8.frozen 3;have e0:=B8.cell 0;have e1:=B8.cell 1;have e2:=B8.cell 2;have e3:=B8.cell 3;simp at d0 d1 d2 d3 e0 e1 e2 e3;have FIN:=zab (zuP ⟨tg.1.s.toArray⟩ tg.1.at_ BR8 (HR7.o.gb hg8 (fun k hk=>by cases hk;simp only[zat];omega)) ((Hgot.o.gb hg8 (fun k hk=>by cases hk;simp only[zat];omega)).st (zaC [59] q1.2)) hs8 (zad HG7.o hg8) hrl htl);clear hs8 hg8 BR8 B8 c3 f3;go_wp2_with fail
   have p0:=FIN.o.1.cell 0;have p1:=FIN.o.1.cell 1;have p2:=FIN.o.1.cell 2;have p3:=FIN.o.1.cell 3;simp at p0 p1 p2 p3;refine bodyPost_ret (by simp[results,Tryz.results68,go_sem,p0,p1,p2,p3]) rfl ⟨_,_,rfl,FIN.o.2⟩
end Go.Proofs.YtgahgkddaljmkaaGreatDoor
