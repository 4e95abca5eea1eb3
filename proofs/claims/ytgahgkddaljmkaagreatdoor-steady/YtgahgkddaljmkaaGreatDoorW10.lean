/- Read4 .. Par2 -/
import Derived.Test.YtgahgkddaljmkaaGreatDoorW9
set_option maxRecDepth 100000
set_option maxHeartbeats 4000000
namespace Go.Proofs.YtgahgkddaljmkaaGreatDoor
open Tryz
open Go.RowKit
attribute [local go_sem] zcZ zc0 zc1
theorem zf3:∀ (l:List UInt8) (acc:Nat),(∀ c∈l,Th.zba c=true)->Lib.decFrom acc l=some (l.foldl (fun a c=>10*a+(c.toNat-48)) acc)
 |[],acc,_=>rfl
 |c::l,acc,h=>by
  have hc:=h c (by simp);simp only[Th.zba,zzv,decide_eq_true_eq]at hc;have ih:=zf3 l (10*acc+(c.toNat-48)) (fun d hd=>h d (by simp[hd]));simp only[Lib.decFrom,Lib.digitVal];rw[if_pos hc];simp only[zz2];rw[show acc*10+(c.toNat-48)=10*acc+(c.toNat-48) by omega];exact ih
theorem zpd(l:List UInt8)(h0:l≠[])(h:∀ c∈l,Th.zba c=true):Lib.atoi l=some (Th.val l:Int):=by
 cases l with
 |nil=>exact absurd rfl h0
 |cons c r=>
  have hc:=h c (by simp);simp only[Th.zba,zzv,decide_eq_true_eq]at hc;have h1:(c == 45)=false:=by rw[<-Bool.not_eq_true];intro e;have:=eq_of_beq e;subst this;simp at hc
  have h2:(c == 43)=false:=by rw[<-Bool.not_eq_true];intro e;have:=eq_of_beq e;subst this;simp at hc
  simp only[Lib.atoi,h1,h2,zzw,if_false,Lib.decNat,List.isEmpty_cons];rw[zf3 _ _ h];rfl
theorem zuM:∀ (l:List UInt8) (acc:Nat),(∀ c∈l,Th.zba c=true)->l.foldl (fun a c=>10*a+(c.toNat-48)) acc<(acc+1)*10 ^ l.length
 |[],acc,_=>by simp
 |c::l,acc,h=>by
  have hc:=h c (by simp);simp only[Th.zba,zzv,decide_eq_true_eq]at hc;have ih:=zuM l (10*acc+(c.toNat-48)) (fun d hd=>h d (by simp[hd]));simp only[zz2,zy8];refine zyS ih ?_;rw[Nat.pow_succ,Nat.mul_comm (10 ^ l.length) 10,<-Nat.mul_assoc];exact Nat.mul_le_mul_right _ (by omega)
theorem zoS(l:List UInt8)(hl:l.length<=9)(h:∀ c∈l,Th.zba c=true):Th.val l<1000000000:=by
 have h1:=zuM l 0 h;have h2:10 ^ l.length<=10 ^ 9:=zz9 (by omega) hl;unfold Th.val;simp at h1 h2;omega
theorem zi3(w:World)(s:ByteArray):Below w.heap.size w (Lib.bytesWorld w 5 s):=by
 have h:=(zam w (.cells (Lib.bytesCells w 5 s) 5)).drew;refine ⟨rfl,rfl,rfl,?_,?_⟩
 ·have:=h.size;simp only[Lib.bytesWorld,World.freeze];split <;> simp
 ·intro k hk;rw[<-h.block k hk];simp only[Lib.bytesWorld,World.freeze];split
  ·rfl
  ·simp only[Array.getElem?_modify];rw[if_neg (by omega)];rfl
theorem zsB(l:List UInt8):(⟨l.toArray⟩:ByteArray).size=l.length:=by show l.toArray.size=_;simp
variable {w:World}
variable {r tb:Nat}
variable {T:List Th.Tok}
variable {st:Th.St}
theorem zgr(h:RS w r tb T st)(lo hi:Nat)(_hlo:lo<=2147483647)(_hhi:hi<=2147483647):
  Calls prog 280 #[.pointer (some ⟨r,0,none⟩),.int .i64 lo,.int .i64 hi] w fun e w'=>e=.returned (.int .i64 (Th.zaB lo hi st).1)/\RS w' r tb T (Th.zaB lo hi st).2/\w.grownBy w' (some r):=by
 have bd:=h.lt;have cu:=h.tlt;have HH:=zab h;obtain ⟨cap,n,f,p,bJ,rfl⟩:=h;obtain ⟨t,ht⟩:=bJ.tok;have hn:=bJ.lt;have hg:=bJ.zct.len;have HR:=zab bJ;have Ht:=zab ht;have iI:=zl3 bJ ht 3 (by omega);cases hk:(t.k == 3)
 ·have e:Th.zaB lo hi (zby T n f p)=(0,(zby T n f p).fail):=by rw[Th.zaB,iI,hk];simp
  rw[e];have fy:((t.k:Int) == 3)=false:=by simp at hk ⊢;omega
  clear iI e hk;go_enter func280,ntmps280
  go_wp2_with fail
  refine (zdm bJ ht).mono ?_;rintro e w1 ⟨rfl,hb⟩;have aW:=zab ((HH.o.below hb).alloc (.cells #[.int .i64 t.k,.string ⟨t.s.toArray⟩,.int .i64 t.at_] 135));have Hb:=zab hb;clear bJ ht hb;go_wp2_with fail
  refine (zfv aW.o).mono ?_;rintro e w2 ⟨rfl,aI,aF⟩;have eS:=zab aI;have ix:=zab aF;clear aI aF;go_wp2_with fail
  go_ret
  exact ⟨rfl,eS.o,zad (zad (zaf _ Hb.o) (zag _ _ _)) ix.o⟩
 ·have kh:(zby T n f p).hd=t:=by
   cases f with
   |false=>simp[zby,Th.St.hd,ht]
   |true=>
    have e1:=(bJ.zct.last n t ht).2 (bJ.end_ rfl);simp at hk;omega
  have dG:t.k=3:=by simpa using hk
  have ye:=bJ.zct.text t (zy1 ht);have mh:=bJ.zct.num t (zy1 ht) dG;have aV:=zab (zpd t.s (ye.2.1 (by omega)) mh.2);have gW:=zoS t.s mh.1 mh.2;have fy:((t.k:Int) == 3)=true:=by simp at hk ⊢;omega
  have aG:2<=t.k:=by omega
  obtain ⟨m,hm⟩:∃ m,Th.val t.s=m:=⟨_,rfl⟩;rw[hm]at gW aV;have te:=zab mh.1;by_cases hin:lo<=m/\m<=hi
  ·obtain ⟨h1,h2⟩:=hin;have e:Th.zaB lo hi (zby T n f p)=(m,(zby T n f p).adv):=by rw[Th.zaB,iI,hk,kh,hm];simp[h1,h2]
   rw[e];clear iI e hk kh ye mh hm dG;go_enter func280,ntmps280
   go_wp2_with fail
   refine (zdm bJ ht).mono ?_;rintro e w1 ⟨rfl,hb⟩;have e8:=bJ.below hb;have Hb:=zab hb;clear bJ ht hb;go_wp2_with fail
   refine (Tryz.strconv_Atoi _ (m:Int) (by rw[zsB];have:=te.o;omega) (by simpa using aV.o) _).mono ?_;rintro e w2 ⟨rfl,ts,hw⟩;have aw:Below w.heap.size w w2:=by
    rw[hw];exact ((Hb.o.trans ((zam w1 _).mono Hb.o.size)).trans ((zi3 _ _).mono (by simp;have:=Hb.o.size;omega)))
   clear hw;have pd:=HR.o.below aw;have c1:=pd.blk.cell 1;have f1:=pd.blk.frozen 1;simp at c1;have hS:=zab (HR.o.step Ht.o aG aw);clear e8 pd aw;go_wp2_with fail
   go_ret
   exact ⟨rfl,hS.o.1,hS.o.2⟩
  ·have e:Th.zaB lo hi (zby T n f p)=(0,(zby T n f p).fail):=by
    rw[Th.zaB,iI,hk,kh,hm];rcases zAw m lo with h1|h1
    ·simp;omega
    ·simp;omega
   rw[e];clear iI e hk kh ye mh hm dG;go_enter func280,ntmps280
   go_wp2_with fail
   refine (zdm bJ ht).mono ?_;rintro e w1 ⟨rfl,hb⟩;have e8:=bJ.below hb;have Hb:=zab hb;clear bJ ht hb;go_wp2_with fail
   refine (Tryz.strconv_Atoi _ (m:Int) (by rw[zsB];have:=te.o;omega) (by simpa using aV.o) _).mono ?_;rintro e w2 ⟨rfl,ts,hw⟩;have aw:Below w.heap.size w w2:=by
    rw[hw];exact ((Hb.o.trans ((zam w1 _).mono Hb.o.size)).trans ((zi3 _ _).mono (by simp;have:=Hb.o.size;omega)))
   have aI:=zab (HH.o.below aw);have cO:=zab aw;clear hw aw e8;rcases zAw m lo with h1|h1
   ·clear hin;go_wp2_with fail
    refine (zfv aI.o).mono ?_;rintro e w3 ⟨rfl,bP,aS⟩;have fG:=zab bP;have ej:=zab aS;clear bP aS;go_wp2_with fail
    go_ret
    exact ⟨rfl,fG.o,zad (zaf _ cO.o) ej.o⟩
   ·have h2:hi<m:=by omega
    clear hin;go_wp2_with fail
    refine (zfv aI.o).mono ?_;rintro e w3 ⟨rfl,bP,aS⟩;have fG:=zab bP;have ej:=zab aS;clear bP aS;go_wp2_with fail
    go_ret
    exact ⟨rfl,fG.o,zad (zaf _ cO.o) ej.o⟩
theorem zuF(h:RS w r tb T st):
  Calls prog 272 #[.pointer (some ⟨r,0,none⟩)] w fun e w'=>e=.returned (.int .i64 (Th.zaB 1 99 st).1)/\RS w' r tb T (Th.zaB 1 99 st).2/\w.grownBy w' (some r):=by
 go_enter func272,ntmps272
 go_wp2_with fail
 refine (zgr h 1 99 (by omega) (by omega)).mono ?_;rintro e w1 ⟨rfl,hs,hg⟩;have Hs:=zab hs;have Hg:=zab hg;clear h hs hg;go_wp2_with fail
 go_ret
 exact ⟨rfl,Hs.o,Hg.o⟩
theorem zeI(h:RS w r tb T st):
  Calls prog 286 #[.pointer (some ⟨r,0,none⟩)] w fun e w'=>e=.returned (.bool (Th.zcI st))/\Below w.heap.size w w':=by
 obtain ⟨t,tk,ti,th,tm,tc⟩:=zhs h;have H:=zab h;have aG:=tk 2 (by omega);have dG:=tk 3 (by omega);cases h2:st.kind 2
 ·have wJ:((t.k:Int) == 2)=false:=by rw[aG]at h2;simp at h2 ⊢;omega
  have HB:Hid (Th.zcI st=(st.kind 3||st.is [123]||st.is [40])):=zab (by simp[Th.zcI,h2]);clear h2;cases h3:st.kind 3
  ·have uA:((t.k:Int) == 3)=false:=by rw[dG]at h3;simp at h3 ⊢;omega
   have gA:Hid (Th.zcI st=(st.is [123]||st.is [40])):=zab (by rw[HB.o,h3];simp);clear h3 aG dG tk ti th tm HB;go_enter func286,ntmps286
   go_wp2_with fail
   refine tc.mono ?_;rintro e w1 ⟨rfl,hb⟩;have Hb:=zab hb;have aW:=h.below hb;clear tc h hb;go_wp2_with fail
   refine (zbV aW ⟨#[123]⟩ (by simp)).mono ?_;rintro e w2 ⟨rfl,hb⟩;have cO:=zab hb;have aI:=aW.below hb;clear hb;cases h4:st.is [123]
   ·have H4:=zab h4;clear h4 aW;go_wp2_with fail
    refine (zbV aI ⟨#[40]⟩ (by simp)).mono ?_;rintro e w3 ⟨rfl,hb⟩;have cG:=zab hb;clear hb aI;go_wp2_with fail
    go_ret
    refine ⟨?_,(Hb.o.trans (cO.o.mono Hb.o.size)).trans (cG.o.mono (zyR Hb.o.size cO.o.size))⟩;rw[gA.o,H4.o];rfl
   ·have H4:=zab h4;clear h4 aW aI;go_wp2_with fail
    go_ret
    refine ⟨?_,Hb.o.trans (cO.o.mono Hb.o.size)⟩;rw[gA.o,H4.o];rfl
  ·have uA:((t.k:Int) == 3)=true:=by rw[dG]at h3;simp at h3 ⊢;omega
   have gA:Hid (Th.zcI st=true):=zab (by rw[HB.o,h3];simp);clear h3 aG dG tk ti th tm HB;go_enter func286,ntmps286
   go_wp2_with fail
   refine tc.mono ?_;rintro e w1 ⟨rfl,hb⟩;have Hb:=zab hb;clear tc h hb;go_wp2_with fail
   go_ret
   exact ⟨by rw[gA.o];rfl,Hb.o⟩
 ·have wJ:((t.k:Int) == 2)=true:=by rw[aG]at h2;simp at h2 ⊢;omega
  have gA:Hid (Th.zcI st=true):=zab (by simp[Th.zcI,h2]);clear h2 aG dG tk ti th tm;go_enter func286,ntmps286
  go_wp2_with fail
  refine tc.mono ?_;rintro e w1 ⟨rfl,hb⟩;have Hb:=zab hb;clear tc h hb;go_wp2_with fail
  go_ret
  exact ⟨by rw[gA.o];rfl,Hb.o⟩
theorem zfX(h:RS w r tb T st)(c:Bool):
  Calls prog 251 #[.pointer (some ⟨r,0,none⟩),.bool c] w fun e w'=>e=.returned (.bool (Th.za8 c st))/\Below w.heap.size w w':=by
 cases h1:st.is [59]
 ·have e1:Th.za8 c st=false:=by simp[Th.za8,h1]
  rw[e1];have H1:=zab h1;clear h1 e1;go_enter func251,ntmps251
  go_wp2_with fail
  refine (zbV h ⟨#[59]⟩ (by simp)).mono ?_;rintro e w1 ⟨rfl,hb⟩;rw[show st.is (ByteArray.mk #[59]).data.toList=false from H1.o];have Hb:=zab hb;clear h hb;go_wp2_with fail
  go_ret
  exact ⟨rfl,Hb.o⟩
 ·have H1:=zab h1;cases c with
  |false=>
   have e1:Th.za8 false st=true:=by simp[Th.za8,h1]
   rw[e1];clear h1 e1;go_enter func251,ntmps251
   go_wp2_with fail
   refine (zbV h ⟨#[59]⟩ (by simp)).mono ?_;rintro e w1 ⟨rfl,hb⟩;rw[show st.is (ByteArray.mk #[59]).data.toList=true from H1.o];have Hb:=zab hb;clear h hb;go_wp2_with fail
   go_quiet (fail)
   go_wp2_with fail
   go_ret
   exact ⟨rfl,below_drewN Hb.o _⟩
  |true=>
   have h0:=h;obtain ⟨cap,n,f,p,bJ,rfl⟩:=h0;obtain ⟨t,ht⟩:=bJ.tok;have hk:=zlb bJ ht _ (by simp) h1;have hn:n+1<T.length:=by
    have:=bJ.zct.last n t ht;have:=bJ.lt;rcases zAw (n+1) T.length with h|h
    ·exact h
    ·have:t.k<=1:=(bJ.zct.last n t ht).2 (by omega);omega
   obtain ⟨t2,p9⟩:∃ t2,T[n+1]?=some t2:=⟨T[n+1]'hn,zyM hn⟩;have uJ:f=false:=by
    cases f with
    |false=>rfl
    |true=>have:=bJ.end_ rfl;omega
   subst uJ;have e1:Th.za8 true (zby T n false p)=(t2.s == [60]):=by
    have e2:((zby T n false p).rest.tail.headD Th.znj)=t2:=by simp[zby,p9]
    rw[Th.za8,h1,e2];rfl
   rw[e1];have hg:=bJ.zct.len;have HR:=zab bJ;have Di:=zab p9;clear h1 e1 bJ ht p9 hk;go_enter func251,ntmps251
   go_wp2_with fail
   refine (zbV h ⟨#[59]⟩ (by simp)).mono ?_;rintro e w1 ⟨rfl,hb⟩;rw[show (zby T n false p).is (ByteArray.mk #[59]).data.toList=true from H1.o];have Hb:=zab hb;have e8:=HR.o.below hb;have c0:=e8.blk.cell 0;have c1:=e8.blk.cell 1;obtain ⟨-,d1,-⟩:=e8.zdN (n+1) t2 Di.o;simp at c0 c1;clear h hb e8;go_wp2_with fail
   go_quiet (fail)
   go_wp2_with fail
   go_ret
   exact ⟨rfl,below_drewN Hb.o _⟩
end Go.Proofs.YtgahgkddaljmkaaGreatDoor
namespace Go.Proofs.YtgahgkddaljmkaaGreatDoor
open Tryz
open Go.RowKit
def Row (S:Nat->Prop) (w:World) (e:TypeId) (size:Nat) (v:Value) (n:Nat) (xs:List Value):Prop:=
 w.ownsRow 0 e size v n xs/\∀ k,v.ownBlock=some k->S k
variable {S:Nat->Prop}
variable {w w':World}
variable {size n:Nat}
variable {v:Value}
variable {xs:List Value}
variable {row:Option Nat}
theorem Row.gb{e:TypeId}(h:Row S w e size v n xs)(hg:w.grownBy w' row)(hr:∀ k,row=some k->¬ S k):Row S w' e size v n xs:=by
 refine ⟨h.1.kept hg ?_,h.2⟩;cases hv:v.ownBlock with
 |none=>exact .inl rfl
 |some k=>exact .inr fun e=>hr k e.symm (h.2 k hv)
variable {S':Nat->Prop}
theorem Row.mono{e:TypeId}(h:Row S w e size v n xs)(hs:∀ k,k<w.heap.size->S k->S' k):Row S' w e size v n xs:=
 ⟨h.1,fun k hk=>hs k (h.1.lt k hk).2 (h.2 k hk)⟩
theorem za0{base b':Nat}{e:TypeId}(h:w.ownsRow base e size v n xs)(hb:b'<=base):w.ownsRow b' e size v n xs:=by
 obtain ⟨h1,h2⟩:=h;refine ⟨h1,?_⟩;rcases h2 with h2|⟨g,cap,cur,hv,hg,r⟩
 ·exact .inl h2
 ·exact .inr ⟨g,cap,cur,hv,by omega,r⟩
theorem Row.zaE{base:Nat}{e:TypeId}(h:w.ownsRow base e size v n xs):Row (fun b=>base<=b) w e size v n xs:=
 ⟨za0 h (zy5 _),fun k hk=>(h.lt k hk).1⟩
def zaM:List Th.Tok->List Value->List Value
 |t::l,v::vs=>[.string ⟨t.s.toArray⟩,.int .i64 t.at_,v]++zaM l vs
 |_,_=>[]
def za7:List (Nat × List Th.Tok)->List Value->List Value->List Value
 |a::l,n::ns,v::vs=>[.int .i64 a.1,n,v]++za7 l ns vs
 |_,_,_=>[]
theorem zf1:∀ (l:List Th.Tok) (vs:List Value) (t:Th.Tok) (v:Value),l.length=vs.length->zaM (l++[t]) (vs++[v])=zaM l vs++[.string ⟨t.s.toArray⟩,.int .i64 t.at_,v]
 |[],[],_,_,_=>rfl
 |a::l,b::vs,t,v,h=>by
  simp only[zy7,zaM];rw[zf1 l vs t v (by simpa using h)];simp
 |[],_::_,_,_,h=>by simp at h
 |_::_,[],_,_,h=>by simp at h
theorem zgK:∀ (l:List (Nat × List Th.Tok)) (ns vs:List Value) (a:Nat × List Th.Tok) (n v:Value),l.length=ns.length->l.length=vs.length->za7 (l++[a]) (ns++[n]) (vs++[v])=za7 l ns vs++[.int .i64 a.1,n,v]
 |[],[],[],_,_,_,_,_=>rfl
 |x::l,y::ns,z::vs,a,n,v,h1,h2=>by
  simp only[zy7,za7];rw[zgK l ns vs a n v (by simpa using h1) (by simpa using h2)];simp
 |[],_::_,_,_,_,_,h,_=>by simp at h
 |[],[],_::_,_,_,_,_,h=>by simp at h
 |_::_,[],_,_,_,_,h,_=>by simp at h
 |_::_,_::_,[],_,_,_,_,h=>by simp at h
def Rep (S:Nat->Prop) (w:World):Nat->Value->Th.Ex->Prop
 |0,_,_=>False
 |n+1,v,e=>
  (e.kind=1/\v=.iface 217 (.agg #[.int .i64 e.n])) \/
  (e.kind=2/\v=.iface 215 (.agg #[.string ⟨e.tok.s.toArray⟩,.int .i64 e.tok.at_])) \/
  (e.kind=3/\v=.iface 219 (.agg #[.int .i64 e.tag,.int .i64 e.arity])) \/
  (e.kind=4/\∃ sv bv b,e.kids=[b]/\v=.iface 226 (.agg #[sv,bv])/\Row S w 88 2 sv e.names.length (zaj e.names)/\Rep S w n bv b) \/
  (e.kind=5/\∃ v1 v2 e1 e2,e.kids=[e1,e2]/\v=.iface 163 (.agg #[v1,v2])/\Rep S w n v1 e1/\Rep S w n v2 e2) \/
  (e.kind=6/\∃ v1 v2 e1 e2,e.kids=[e1,e2]/\v=.iface 166 (.agg #[.string ⟨e.tok.s.toArray⟩,v1,v2])/\Rep S w n v1 e1/\Rep S w n v2 e2) \/
  ((e.kind=7\/e.kind=8)/\∃ sv bv b parts pvs,e.kids=b::parts/\v=.iface 178 (.agg #[.bool (e.kind == 8),sv,bv])/\parts.length=e.names.length/\pvs.length=e.names.length /\
   Row S w 312 3 sv e.names.length (zaM e.names pvs)/\(∀ (i:Nat) (pv:Value) (p:Th.Ex),pvs[i]?=some pv->parts[i]?=some p->Rep S w n pv p)/\Rep S w n bv b) \/
  (e.kind=9/\∃ cv sv b ag nvs bvs,e.kids=b::ag/\v=.iface 173 (.agg #[cv,sv])/\ag.length=e.zao.length/\nvs.length=e.zao.length/\bvs.length=e.zao.length /\
   Row S w 240 3 sv e.zao.length (za7 e.zao nvs bvs)/\(∀ (i:Nat) (a:Nat × List Th.Tok) (nv:Value),e.zao[i]?=some a->nvs[i]?=some nv->Row S w 88 2 nv a.2.length (zaj a.2)) /\
   (∀ (i:Nat) (bv:Value) (p:Th.Ex),bvs[i]?=some bv->ag[i]?=some p->Rep S w n bv p)/\Rep S w n cv b)
theorem Rep.imp{S S':Nat->Prop}{w w':World}(af:∀ e size v n xs,Row S w e size v n xs->Row S' w' e size v n xs):∀ (n:Nat) (v:Value) (e:Th.Ex),Rep S w n v e->Rep S' w' n v e
 |0,_,_,h=>h.elim
 |n+1,v,e,h=>by
  have ih:=Rep.imp af n;rcases h with h|h|h|⟨hk,sv,bv,b,h1,h2,h3,h4⟩|⟨hk,v1,v2,e1,e2,h1,h2,h3,h4⟩|⟨hk,v1,v2,e1,e2,h1,h2,h3,h4⟩|⟨hk,sv,bv,b,parts,pvs,h1,h2,h3,h4,h5,h6,h7⟩|⟨hk,cv,sv,b,ag,nvs,bvs,h1,h2,h3,h4,h5,h6,h7,h8,h9⟩
  ·exact .inl h
  ·exact .inr (.inl h)
  ·exact .inr (.inr (.inl h))
  ·exact .inr (.inr (.inr (.inl ⟨hk,sv,bv,b,h1,h2,af _ _ _ _ _ h3,ih _ _ h4⟩)))
  ·exact .inr (.inr (.inr (.inr (.inl ⟨hk,v1,v2,e1,e2,h1,h2,ih _ _ h3,ih _ _ h4⟩))))
  ·exact .inr (.inr (.inr (.inr (.inr (.inl ⟨hk,v1,v2,e1,e2,h1,h2,ih _ _ h3,ih _ _ h4⟩)))))
  ·exact .inr (.inr (.inr (.inr (.inr (.inr (.inl ⟨hk,sv,bv,b,parts,pvs,h1,h2,h3,h4,af _ _ _ _ _ h5,fun i pv p a c=>ih _ _ (h6 i pv p a c),ih _ _ h7⟩))))))
  ·exact .inr (.inr (.inr (.inr (.inr (.inr (.inr ⟨hk,cv,sv,b,ag,nvs,bvs,h1,h2,h3,h4,h5,af _ _ _ _ _ h6,fun i a nv x y=>af _ _ _ _ _ (h7 i a nv x y),fun i bv p a c=>ih _ _ (h8 i bv p a c),ih _ _ h9⟩))))))
theorem Rep.succ{S:Nat->Prop}{w:World}:∀ (n:Nat) (v:Value) (e:Th.Ex),Rep S w n v e->Rep S w (n+1) v e
 |0,_,_,h=>h.elim
 |n+1,v,e,h=>by
  have ih:=Rep.succ (S:=S) (w:=w) n;rcases h with h|h|h|⟨hk,sv,bv,b,h1,h2,h3,h4⟩|⟨hk,v1,v2,e1,e2,h1,h2,h3,h4⟩|⟨hk,v1,v2,e1,e2,h1,h2,h3,h4⟩|⟨hk,sv,bv,b,parts,pvs,h1,h2,h3,h4,h5,h6,h7⟩|⟨hk,cv,sv,b,ag,nvs,bvs,h1,h2,h3,h4,h5,h6,h7,h8,h9⟩
  ·exact .inl h
  ·exact .inr (.inl h)
  ·exact .inr (.inr (.inl h))
  ·exact .inr (.inr (.inr (.inl ⟨hk,sv,bv,b,h1,h2,h3,ih _ _ h4⟩)))
  ·exact .inr (.inr (.inr (.inr (.inl ⟨hk,v1,v2,e1,e2,h1,h2,ih _ _ h3,ih _ _ h4⟩))))
  ·exact .inr (.inr (.inr (.inr (.inr (.inl ⟨hk,v1,v2,e1,e2,h1,h2,ih _ _ h3,ih _ _ h4⟩)))))
  ·exact .inr (.inr (.inr (.inr (.inr (.inr (.inl ⟨hk,sv,bv,b,parts,pvs,h1,h2,h3,h4,h5,fun i pv p a c=>ih _ _ (h6 i pv p a c),ih _ _ h7⟩))))))
  ·exact .inr (.inr (.inr (.inr (.inr (.inr (.inr ⟨hk,cv,sv,b,ag,nvs,bvs,h1,h2,h3,h4,h5,h6,h7,fun i bv p a c=>ih _ _ (h8 i bv p a c),ih _ _ h9⟩))))))
variable {e:Th.Ex}
theorem Rep.le{m:Nat}(h:Rep S w n v e)(hm:n<=m):Rep S w m v e:=by
 induction hm with
 |refl=>exact h
 |step _ ih=>exact Rep.succ _ _ _ ih
theorem Rep.gb{S:Nat->Prop}{w w':World}{n:Nat}{v:Value}{e:Th.Ex}(h:Rep S w n v e){row:Option Nat}(hg:w.grownBy w' row)(hr:∀ k,row=some k->¬ S k):Rep S w' n v e:=
 Rep.imp (fun _ _ _ _ _ hR=>hR.gb hg hr) n v e h
theorem Rep.mono{S S':Nat->Prop}{w:World}{n:Nat}{v:Value}{e:Th.Ex}(h:Rep S w n v e)(hs:∀ k,k<w.heap.size->S k->S' k):Rep S' w n v e:=
 Rep.imp (fun _ _ _ _ _ hR=>hR.mono hs) n v e h
structure One (v:Value):Prop where
 shape:v=.nilIface\/∃ t x,v=.iface t x
theorem One.cells{v:Value}(h:One v):v.cells=#[v]:=by
 rcases h.shape with rfl|⟨t,x,rfl⟩ <;> rfl
theorem One.one(h:One v):v.oneCell'=true:=by
 rcases h.shape with rfl|⟨t,x,rfl⟩ <;> rfl
theorem zxB:One .nilIface:=⟨.inl rfl⟩
theorem zb0(t:TypeId)(x:Value):One (.iface t x):=⟨.inr ⟨t,x,rfl⟩⟩
structure Got (S:Nat->Prop) (w:World) (v:Value) (e:Th.Ex) (st:Th.St):Prop where
 one:One v
 rep:st.bad=none->∃ n,Rep S w n v e
theorem Got.gb{S:Nat->Prop}{w w':World}{v:Value}{e:Th.Ex}{st:Th.St}(h:Got S w v e st){row:Option Nat}(hg:w.grownBy w' row)(hr:∀ k,row=some k->¬ S k):Got S w' v e st:=
 ⟨h.one,fun hb=>by obtain ⟨n,hn⟩:=h.rep hb;exact ⟨n,hn.gb hg hr⟩⟩
theorem Got.mono{S S':Nat->Prop}{w:World}{v:Value}{e:Th.Ex}{st:Th.St}(h:Got S w v e st)(hs:∀ k,k<w.heap.size->S k->S' k):Got S' w v e st:=
 ⟨h.one,fun hb=>by obtain ⟨n,hn⟩:=h.rep hb;exact ⟨n,hn.mono hs⟩⟩
theorem Got.st{S:Nat->Prop}{w:World}{v:Value}{e:Th.Ex}{st st':Th.St}(h:Got S w v e st)(hb:st'.bad=none->st.bad=none):Got S w v e st':=⟨h.one,fun h'=>h.rep (hb h')⟩
abbrev zat (w:World):Nat->Prop:=fun b=>w.heap.size<=b
end Go.Proofs.YtgahgkddaljmkaaGreatDoor
namespace Go.Proofs.YtgahgkddaljmkaaGreatDoor
open Tryz
namespace Cp
abbrev Nm:=List UInt8
def zaH (l gone:List Nm):List Nm:=l.filter fun x=>!gone.contains x
def union (l more:List Nm):List Nm:=l++zaH more l
def zas (f:Th.Ex->List Nm):List (Nat × List Th.Tok)->List Th.Ex->List Nm->List Nm
 |a::az,b::bs,l=>zas f az bs (union l (zaH (f b) (Th.texts a.2)))
 |_,_,l=>l
def zav (f:Th.Ex->List Nm):List Th.Ex->List Nm->List Nm
 |p::ps,l=>zav f ps (union l (f p))
 |[],l=>l
def free:Nat->Th.Ex->List Nm
 |0,_=>[]
 |n+1,e=>
  if e.kind=2 then [e.tok.s] else
  if e.kind=4 then (match e.kids with|[b]=>zaH (free n b) (Th.texts e.names)|_=>[]) else
  if e.kind=5\/e.kind=6 then (match e.kids with|[a,b]=>union (free n a) (free n b)|_=>[]) else
  if e.kind=7 then (match e.kids with|b::ps=>union (zav (free n) ps []) (zaH (free n b) (Th.texts e.names))|_=>[]) else
  if e.kind=8 then (match e.kids with|b::ps=>union (zaH (zav (free n) ps []) (Th.texts e.names)) (zaH (free n b) (Th.texts e.names))|_=>[]) else
  if e.kind=9 then (match e.kids with|s::bs=>union (free n s) (zas (free n) e.zao bs [])|_=>[]) else []
structure Bs where
 blocks:List (Nat × List Ins)
 zac:List Nm
 code:List Ins
def Bs.write (b:Bs) (i:Ins):Bs:={ b with code:=b.code++[i] }
def Bs.push (b:Bs) (i:Ins):Bs:={ b with code:=b.code++[i],zac:=b.zac++[[]] }
def Bs.drop (b:Bs) (c:Nat):Bs:={ b with zac:=b.zac.take (b.zac.length-c) }
def zcq (zac:List Nm) (x:Nm):Nat->Option Nat
 |0=>none
 |k+1=>if zac[k]?=some x then some k else zcq zac x k
def za9 (zac:List Nm) (x:Nm):Option Nat:=zcq zac x zac.length
def zai (zac:List Nm) (names:List Nm):List Nm:=names.filter fun x=>(za9 zac x).isSome
def Bs.use (fns:List Nm) (b:Bs) (x:Nm):Bs:=
 match za9 b.zac x with
 |some i=>b.push (.push i)
 |none=>b.push (.zcW (fns.idxOf x))
def Bs.zak (fns:List Nm) (b:Bs) (names:List Nm):Bs:=names.reverse.foldl (Bs.use fns) b
def Bs.zhD (b:Bs) (zac:List Nm) (wr:Bs->Bs):Bs × Nat:=
 let q:=wr ⟨b.blocks,zac,[]⟩
 ({ b with blocks:=q.blocks++[(zac.length,q.code)] },q.blocks.length)
def zal (wk:Th.Ex->Nat->Bs->Bs) (fr:Th.Ex->List Nm) (b:Bs) (e:Th.Ex):Bs × Nat × List Nm:=
 let names:=zai b.zac (fr e)
 let r:=if e.kind=4 then (match e.kids with|[d]=>b.zhD (names++Th.texts e.names).reverse (wk d 0)|_=>(b,0))
  else if e.kind=3 then b.zhD (List.replicate e.arity []) (fun q=>(q.write (.pack e.tag e.arity)).write .enter)
  else b.zhD names.reverse (wk e 0)
 (r.1,r.2,names)
def zaI (wk:Th.Ex->Nat->Bs->Bs) (fr:Th.Ex->List Nm) (fns:List Nm) (b:Bs) (e:Th.Ex):Bs:=
 if e.kind=2 then b.use fns e.tok.s else
 if e.kind=1 then b.push (.num e.n) else
 if e.kind=3/\e.arity=0 then b.push (.pack e.tag 0) else
 let c:=zal wk fr b e
 ((c.1.zak fns c.2.2).drop c.2.2.length).push (.close c.2.1 c.2.2.length)
def Bs.ends (b:Bs) (c:Nat) (last:Ins):Bs:=(b.write (.zci c)).write last
def spread:Nat->Th.Ex->Th.Ex × List Th.Ex
 |0,e=>(e,[])
 |n+1,e=>
  match e.kids with
  |[f,a]=>if f.kind=5 then ((spread n f).1,(spread n f).2++[a]) else (f,[a])
  |_=>(e,[])
def armsOf (wk:Th.Ex->Nat->Bs->Bs) (names:List Nm):List (Nat × List Th.Tok)->List Th.Ex->Bs->List (Nat × Nat × Nat)->Bs × List (Nat × Nat × Nat)
 |a::az,d::ds,b,l=>
  let r:=b.zhD (Th.texts a.2++names).reverse (wk d 0)
  armsOf wk names az ds r.1 (l++[(a.1,a.2.length,r.2)])
 |_,_,b,l=>(b,l)
def makeAll (wk:Th.Ex->Nat->Bs->Bs) (fr:Th.Ex->List Nm):List Th.Ex->Bs->List (List Nm)->Bs × List (List Nm)
 |p::ps,b,l=>
  let c:=zal wk fr b p
  makeAll wk fr ps (c.1.write (.hold c.2.1 c.2.2.length)) (l++[c.2.2])
 |[],b,l=>(b,l)
def zbf (fns:List Nm):Nat->List (List Nm)->Bs->Bs
 |i,names::l,b=>zbf fns (i+1) l (((b.zak fns names).drop names.length).write (.fill i names.length))
 |_,[],b=>b
def zkD (wk:Th.Ex->Nat->Bs->Bs) (fr:Th.Ex->List Nm) (fns:List Nm) (e:Th.Ex) (b:Bs):Bs:=
 match e.kids with
 |d::ps=>
  if e.kind=8 then
   let r:=makeAll wk fr ps { b with zac:=b.zac++Th.texts e.names } []
   wk d 0 (zbf fns b.zac.length r.2 r.1)
  else
   let b1:=ps.foldl (zaI wk fr fns) b
   wk d 0 { b1 with zac:=Go.splice b1.zac b.zac.length (Th.texts e.names) }
 |[]=>b
def work (fr:Th.Ex->List Nm) (fns:List Nm):Nat->Th.Ex->Nat->Bs->Bs
 |0,_,_,b=>b
 |n+1,e,below,b=>
  if e.kind=5 then
   let s:=spread (n+1) e
   let b1:=s.2.reverse.foldl (zaI (work fr fns n) fr fns) b
   work fr fns n s.1 (below+s.2.length+1) (b1.push (.zbF s.2.length))
  else if e.kind=6 then
   match e.kids with
   |[l,r]=>
    let names:=zai b.zac (fr r)
    let c:=b.zhD ([]::names).reverse fun q=>
     let d:=((q.write .zbX).push (.push (q.zac.length-1))).zhD [[],[]] fun z=>(z.write (.comp ⟨e.tok.s.toArray⟩)).write .enter
     work fr fns n r 2 (d.1.push (.wait d.2))
    work fr fns n l (below+names.length+1) ((c.1.zak fns names).push (.wait c.2))
   |_=>b
  else if e.kind=9 then
   match e.kids with
   |s::ds=>
    let names:=zai b.zac (zas fr e.zao ds [])
    let c:=b.zhD ([]::names).reverse fun q=>
     let a:=armsOf (work fr fns n) names e.zao ds q []
     a.1.write (.choose a.2)
    work fr fns n s (below+names.length+1) ((c.1.zak fns names).push (.wait c.2))
   |_=>b
  else if e.kind=7\/e.kind=8 then
   if below=0 then zkD (work fr fns n) fr fns e b
   else
    let names:=zai b.zac (fr e)
    let c:=(b.zak fns names).zhD names.reverse (zkD (work fr fns n) fr fns e)
    c.1.ends (below+names.length) (.jump c.2)
  else (zaI (work fr fns n) fr fns b e).ends (below+1) .enter
def lines (fr:Th.Ex->List Nm) (fns:List Nm) (n:Nat):Nat->List Th.zbr->List (Nat × List Ins)->List (Nat × List Ins)
 |i,f::l,bl=>
  let zac:=(Th.texts f.params).reverse
  let q:=work fr fns n f.e 0 ⟨bl,zac,[]⟩
  lines fr fns n (i+1) l (q.blocks.set i (zac.length,q.code))
 |_,[],bl=>bl
def program (n:Nat) (l:List Th.zbr):List (Nat × List Ins):=lines (free n) (l.map fun f=>f.name.s) n 0 l (List.replicate l.length (0,[]))
end Cp
end Go.Proofs.YtgahgkddaljmkaaGreatDoor
namespace Go.Proofs.YtgahgkddaljmkaaGreatDoor
open Tryz
open Go.RowKit
attribute [local go_sem] zcZ zc0 zc1
theorem zaC(x:List UInt8)(st:Th.St):(Th.want x st).bad=none->st.bad=none:=by
 intro h;unfold Th.want at h;split at h
 ·simpa [Th.St.adv] using h
 ·unfold Th.St.fail at h;split at h
  ·simp at h
  ·exact h
theorem zdX(lo hi:Nat)(st:Th.St):(Th.zaB lo hi st).2.bad=none->st.bad=none:=by
 intro h;unfold Th.zaB at h;split at h
 ·simpa [Th.St.adv] using h
 ·simp only at h;unfold Th.St.fail at h;split at h
  ·simp at h
  ·exact h
def Reads (w:World) (r tb:Nat) (T:List Th.Tok) (e:Th.Ex) (st':Th.St) (en:Ending) (w':World):Prop:=
 ∃ v,en=.returned v/\Got (zat w) w' v e st'/\RS w' r tb T st'/\w.grownBy w' (some r)
variable {w:World}
variable {r tb:Nat}
variable {T:List Th.Tok}
variable {st:Th.St}
theorem ztB(h:RS w r tb T st):
  Calls prog 290 #[.pointer (some ⟨r,0,none⟩)] w fun en w'=>Reads w r tb T (Th.zdj st).1 (Th.zdj st).2 en w':=by
 have bd:=h.lt;have cu:=h.tlt;go_enter func290,ntmps290
 go_wp2_with fail
 refine (zuF h).mono ?_;rintro e w1 ⟨rfl,aW,bw⟩;generalize ha:Th.zaB 1 99 st=a at aW ⊢;have Ha:=zab ha;have gF:=zab (aW.alloc (.cells #[.int .i64 a.1,.int .i64 0] 219));have lW:=zab bw;have hz:=bw.size;have B0:=zab (Blk.new w1 [.int .i64 a.1,.int .i64 0] 219);clear h ha aW bw;go_wp2_with fail
 refine (zaX gF.o ⟨#[44]⟩ (by simp)).mono ?_;rintro e w2 ⟨rfl,aI,aF⟩;have B1:=zab (B0.o.grown aF (by simp;omega));have ix:=zab aF;clear aF;go_wp2_with fail
 refine (zgr aI 0 9 (by omega) (by omega)).mono ?_;rintro e w3 ⟨rfl,bP,aS⟩;clear aI;generalize hb:Th.zaB 0 9 _=b at bP ⊢;have B2:=B1.o.grown aS (by simp;omega);have c1:=B2.cell 1;have f1:=B2.frozen 1;simp at c1;have gA:=zab B2;have Hb:=zab hb;have ej:=zab aS;have fG:=zab (bP.set w1.heap.size 1 (.int .i64 b.1) (by omega) (by omega));clear bP aS hb B2;go_wp2_with fail
 refine (zaX fG.o ⟨#[125]⟩ (by simp)).mono ?_;rintro e w4 ⟨rfl,bV,bM⟩;have B3:=(gA.o.set 1 (.int .i64 b.1)).grown bM (by simp;omega);have d0:=B3.cell 0;have d1:=B3.cell 1;simp at d0 d1;have gh:=zab bV;have gN:=zab bM;clear bV bM B3 c1 f1;go_wp2_with fail
 go_ret
 have ea:Th.zdj st=(Th.zcU a.1 b.1,Th.want [125] b.2):=by
  unfold Th.zdj;simp only[Ha.o];rw[show Th.zaB 0 9 (Th.want [44] a.2)=b from Hb.o]
 rw[ea];have hG:w.grownBy w4 (some r):=zad (zap (zad (zad (zad lW.o (zag _ _ _)) ix.o) ej.o) _ _ hz) gN.o;exact ⟨_,rfl,⟨zb0 _ _,fun _=>⟨1,.inr (.inr (.inl ⟨rfl,rfl⟩))⟩⟩,gh.o,hG⟩
def zso (ex:Th.Rd):Prop:=∀ (c:Bool) (st:Th.St) (q:Th.Ex × Th.St) (w:World) (r tb:Nat) (T:List Th.Tok),ex c st=some q->RS w r tb T st ->
 Calls prog 118 #[.pointer (some ⟨r,0,none⟩),.bool c] w fun en w'=>Reads w r tb T q.1 q.2 en w'
theorem zie{x:List UInt8}(h:st.is x=true):st.bad=none:=by
 obtain ⟨rest,bad⟩:=st;cases bad with
 |some p=>simp[Th.St.is]at h
 |none=>rfl
theorem zur(h:r<w.heap.size):∀ k,some r=some k->¬ zat w k:=by
 intro k e;simp at e;subst e;simp only[zat];omega
theorem zsA{ex:Th.Rd}(hx:zso ex){q:Th.Ex × Th.St}(hq:Th.zeU ex st=some q)(h:RS w r tb T st):
  Calls prog 285 #[.pointer (some ⟨r,0,none⟩)] w fun en w'=>Reads w r tb T q.1 q.2 en w':=by
 have bd:=h.lt;have cu:=h.tlt;obtain ⟨t,tk,ti,th,tm,tc⟩:=zhs h;have aG:=tk 2 (by omega);have dG:=tk 3 (by omega);have HH:=zab h;have HQ:=zab hq;clear hq;cases h2:st.kind 2
 ·have wJ:((t.k:Int) == 2)=false:=by rw[aG]at h2;simp at h2 ⊢;omega
  have H2:=zab h2;clear h2 aG;cases h3:st.kind 3
  ·have uA:((t.k:Int) == 3)=false:=by rw[dG]at h3;simp at h3 ⊢;omega
   have H3:=zab h3;clear h3 dG;have e0:Hid (Th.zeU ex st=if st.is [123] then some (Th.zdj st.adv) else if st.is [40] then (ex false st.adv).bind fun r=>some (r.1,Th.want [41] r.2) else some (Th.ex0,st.fail)):=zab (by rw[Th.zeU,H2.o,H3.o];simp);clear tk ti th tm;go_enter func285,ntmps285
   go_wp2_with fail
   refine tc.mono ?_;rintro e w1 ⟨rfl,hb⟩;have gF:=zab (h.below hb);have Hb:=zab hb;clear tc h hb;go_wp2_with fail
   obtain ⟨t1,tQ,-,-,-,tP⟩:=zhs gF.o;have wM:((t1.k:Int) == 3)=false:=by have:=tQ 3 (by omega);rw[H3.o]at this;simp at this ⊢;omega
   clear tQ;refine tP.mono ?_;rintro e w2 ⟨rfl,aw⟩;have eS:=zab (gF.o.below aw);have cO:=zab (Hb.o.trans (aw.mono Hb.o.size));clear tP aw;go_wp2_with fail
   refine (zbG eS.o ⟨#[123]⟩ (by simp)).mono ?_;rintro e w3 ⟨rfl,bP,aS⟩;have ej:=zab (zad (zaf _ cO.o) aS);clear aS;cases h4:st.is [123]
   ·rw[show st.is (ByteArray.mk #[123]).data.toList=false from h4]at bP;have fG:Hid (RS w3 r tb T st):=zab (by simpa using bP);have H4:=zab h4;clear bP h4;go_wp2_with fail
    refine (zbG fG.o ⟨#[40]⟩ (by simp)).mono ?_;rintro e w4 ⟨rfl,bV,bM⟩;have gN:=zab (zad ej.o bM);clear bM;cases h5:st.is [40]
    ·rw[show st.is (ByteArray.mk #[40]).data.toList=false from h5]at bV;have gh:Hid (RS w4 r tb T st):=zab (by simpa using bV);have e1:=HQ.o;rw[e0.o,H4.o,h5]at e1;simp at e1;subst e1;clear bV h5;go_wp2_with fail
     refine (zfv gh.o).mono ?_;rintro e w5 ⟨rfl,fC,cH⟩;have oF:=zab fC;have vY:=zab (zad gN.o cH);clear fC cH;go_wp2_with fail
     go_ret
     refine ⟨_,rfl,⟨zxB,fun hb=>?_⟩,oF.o,vY.o⟩;unfold Th.St.fail at hb;split at hb <;> simp_all
    ·rw[show st.is (ByteArray.mk #[40]).data.toList=true from h5]at bV;have gh:Hid (RS w4 r tb T st.adv):=zab (by simpa using bV);have e1:=HQ.o;rw[e0.o,H4.o,h5]at e1;simp only[zzw,if_false,if_true,zyQ]at e1;obtain ⟨q1,cF,bC⟩:=e1;simp only[zyP]at bC;subst bC;have Dh:=zab cF;clear bV h5 cF;go_wp2_with fail
     refine (hx _ _ _ _ _ _ _ Dh.o gh.o).mono ?_;rintro en w5 ⟨v,rfl,aq,fC,cH⟩;have cj:=zab aq;have hc:=aq.one.cells;have vY:=zab (zad gN.o cH);clear aq cH;go_wp2_with fail
     refine (zaX fC ⟨#[41]⟩ (by simp)).mono ?_;rintro e w6 ⟨rfl,jL,fk⟩;have qL:=zab jL;have zh:=zab fk;clear fC jL fk;go_wp2_with fail
     go_ret
     have hz:=gN.o.size;refine ⟨v,rfl,?_,qL.o,zad vY.o zh.o⟩;refine Got.st ?_ (zaC [41] q1.2);exact (cj.o.mono (fun k _ hk=>zyR hz hk)).gb zh.o (zur bd)
   ·rw[show st.is (ByteArray.mk #[123]).data.toList=true from h4]at bP;have fG:Hid (RS w3 r tb T st.adv):=zab (by simpa using bP);have e1:=HQ.o;rw[e0.o,h4]at e1;simp only[if_true,zyP]at e1;subst e1;clear bP h4;go_wp2_with fail
    refine (ztB fG.o).mono ?_;rintro en w4 ⟨v,rfl,aq,bV,bM⟩;have cj:=zab aq;have hc:=aq.one.cells;have gh:=zab bV;have gN:=zab bM;clear aq bM bV;go_wp2_with fail
    go_ret
    exact ⟨v,rfl,cj.o.mono (fun k _ hk=>zyR ej.o.size hk),gh.o,zad ej.o gN.o⟩
  ·have uA:((t.k:Int) == 3)=true:=by rw[dG]at h3;simp at h3 ⊢;omega
   have H3:=zab h3;have jd:st.hd=t:=th (zvK h3);have sB:t.k=3:=by rw[dG]at h3;simpa using h3
   have mh:=h.zct.num t tm sB;have hv:=zoS t.s mh.1 mh.2;have ep:Hid (Th.zaB 0 2147483647 st=(Th.val st.hd.s,st.adv)):=zab (by rw[Th.zaB,h3,jd];simp;omega);have e1:Th.zeU ex st=some (Th.mkNum (Th.val st.hd.s),st.adv):=by rw[Th.zeU,H2.o,h3];simp
   have e2:=HQ.o;rw[e1]at e2;simp only[zyP]at e2;subst e2;clear h3 dG jd sB mh hv e1 tk ti th tm;go_enter func285,ntmps285
   go_wp2_with fail
   refine tc.mono ?_;rintro e w1 ⟨rfl,hb⟩;have gF:=zab (h.below hb);have Hb:=zab hb;clear tc h hb;go_wp2_with fail
   obtain ⟨t1,tQ,-,-,-,tP⟩:=zhs gF.o;have wM:((t1.k:Int) == 3)=true:=by have:=tQ 3 (by omega);rw[H3.o]at this;simp at this ⊢;omega
   clear tQ;refine tP.mono ?_;rintro e w2 ⟨rfl,aw⟩;have eS:=zab (gF.o.below aw);have cO:=zab (Hb.o.trans (aw.mono Hb.o.size));clear tP aw;go_wp2_with fail
   refine (zgr eS.o 0 2147483647 (by omega) (by omega)).mono ?_;rintro e w3 ⟨rfl,bP,aS⟩;rw[ep.o]at bP ⊢;have fG:=zab bP;have ej:=zab (zad (zaf _ cO.o) aS);clear bP aS;go_wp2_with fail
   go_ret
   exact ⟨_,rfl,⟨zb0 _ _,fun _=>⟨1,.inl ⟨rfl,rfl⟩⟩⟩,fG.o,ej.o⟩
 ·have wJ:((t.k:Int) == 2)=true:=by rw[aG]at h2;simp at h2 ⊢;omega
  have H2:=zab h2;have ep:Hid (Th.zaL st=(st.hd,st.adv)):=zab (by simp[Th.zaL,h2]);have e1:Th.zeU ex st=some (Th.zbW st.hd,st.adv):=by rw[Th.zeU,h2];simp
  have e2:=HQ.o;rw[e1]at e2;simp only[zyP]at e2;subst e2;clear h2 aG dG e1 tk ti th tm;go_enter func285,ntmps285
  go_wp2_with fail
  refine tc.mono ?_;rintro e w1 ⟨rfl,hb⟩;have gF:=zab (h.below hb);have Hb:=zab hb;clear tc h hb;go_wp2_with fail
  refine (zg4 gF.o).mono ?_;rintro e w3 ⟨rfl,bP,aS⟩;rw[ep.o]at bP ⊢;have fG:=zab bP;have ej:=zab (zad (zaf _ Hb.o) aS);clear bP aS;go_wp2_with fail
  go_ret
  exact ⟨_,rfl,⟨zb0 _ _,fun _=>⟨1,.inr (.inl ⟨rfl,rfl⟩)⟩⟩,fG.o,ej.o⟩
end Go.Proofs.YtgahgkddaljmkaaGreatDoor
