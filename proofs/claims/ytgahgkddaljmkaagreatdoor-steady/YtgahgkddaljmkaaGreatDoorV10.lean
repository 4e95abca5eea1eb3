/- Read4 .. Par2 -/
import Derived.Test.YtgahgkddaljmkaaGreatDoorV9
import Derived.Deep.QuietTactic
import Derived.BigQuiet
import Derived.Test.YtgahgkddaljmkaaGreatDoorV8
import Derived.Test.YtgahgkddaljmkaaGreatDoorV1
set_option maxRecDepth 100000
set_option maxHeartbeats 4000000
namespace Go.Proofs.YtgahgkddaljmkaaGreatDoor
open Go.RowKit
attribute [local go_sem] zc5 zc0 zc2
theorem zf5:∀ (l:List UInt8) (acc:Nat),(∀ c∈l,Th.zbv c=true)->Lib.decFrom acc l=some (l.foldl (fun a c=>10*a+(c.toNat-48)) acc)
 |[],acc,_=>rfl
 |c::l,acc,h=>by
  have hc:=h c (by simp);simp only[Th.zbv,zyx,decide_eq_true_eq]at hc;have ih:=zf5 l (10*acc+(c.toNat-48)) (fun d hd=>h d (by simp[hd]));simp only[Lib.decFrom,Lib.digitVal];rw[if_pos hc];simp only[zyY];rw[show acc*10+(c.toNat-48)=10*acc+(c.toNat-48) by omega];exact ih
theorem zo1(l:List UInt8)(h0:l≠[])(h:∀ c∈l,Th.zbv c=true):Lib.atoi l=some (Th.val l:Int):=by
 cases l with
 |nil=>exact absurd rfl h0
 |cons c r=>
  have hc:=h c (by simp);simp only[Th.zbv,zyx,decide_eq_true_eq]at hc;have h1:(c == 45)=false:=by rw[<-Bool.not_eq_true];intro e;have:=eq_of_beq e;subst this;simp at hc
  have h2:(c == 43)=false:=by rw[<-Bool.not_eq_true];intro e;have:=eq_of_beq e;subst this;simp at hc
  simp only[Lib.atoi,h1,h2,zys,if_false,Lib.decNat,List.isEmpty_cons];rw[zf5 _ _ h];rfl
theorem zta:∀ (l:List UInt8) (acc:Nat),(∀ c∈l,Th.zbv c=true)->l.foldl (fun a c=>10*a+(c.toNat-48)) acc<(acc+1)*10 ^ l.length
 |[],acc,_=>by simp
 |c::l,acc,h=>by
  have hc:=h c (by simp);simp only[Th.zbv,zyx,decide_eq_true_eq]at hc;have ih:=zta l (10*acc+(c.toNat-48)) (fun d hd=>h d (by simp[hd]));simp only[zyY,zx3];refine zxO ih ?_;rw[Nat.pow_succ,Nat.mul_comm (10 ^ l.length) 10,<-Nat.mul_assoc];exact Nat.mul_le_mul_right _ (by omega)
theorem zn1(l:List UInt8)(hl:l.length<=9)(h:∀ c∈l,Th.zbv c=true):Th.val l<1000000000:=by
 have h1:=zta l 0 h;have h2:10 ^ l.length<=10 ^ 9:=Nat.pow_le_pow_right (by omega) hl;unfold Th.val;simp at h1 h2;omega
theorem zkf(w:World)(s:ByteArray):Below w.heap.size w (Lib.bytesWorld w 5 s):=by
 have h:=(zam w (.cells (Lib.bytesCells w 5 s) 5)).drew;refine ⟨rfl,rfl,rfl,?_,?_⟩
 ·have:=h.size;simp only[Lib.bytesWorld,World.freeze];split <;> simp
 ·intro k hk;rw[<-h.block k hk];simp only[Lib.bytesWorld,World.freeze];split
  ·rfl
  ·simp only[Array.getElem?_modify];rw[if_neg (by omega)];rfl
theorem ztF(l:List UInt8):(⟨l.toArray⟩:ByteArray).size=l.length:=by show l.toArray.size=_;simp
variable {w:World}
variable {r tb:Nat}
variable {T:List Th.Tok}
variable {st:Th.St}
theorem zga(h:RS w r tb T st)(lo hi:Nat)(_hlo:lo<=2147483647)(_hhi:hi<=2147483647):
  Calls Tryz.prog 280 #[.pointer (some ⟨r,0,none⟩),.int .i64 lo,.int .i64 hi] w fun e w'=>e=.returned (.int .i64 (Th.zaA lo hi st).1)/\RS w' r tb T (Th.zaA lo hi st).2/\w.grownBy w' (some r):=by
 have hrl:=h.lt;have htl:=h.tlt;have HH:=zab h;obtain ⟨cap,n,f,p,hri,rfl⟩:=h;obtain ⟨t,ht⟩:=hri.tok;have hn:=hri.lt;have hg:=hri.zcr.len;have HR:=zab hri;have Ht:=zab ht;have hkd:=zm0 hri ht 3 (by omega);cases hk:(t.k == 3)
 ·have e:Th.zaA lo hi (zbA T n f p)=(0,(zbA T n f p).fail):=by rw[Th.zaA,hkd,hk];simp
  rw[e];have hk':((t.k:Int) == 3)=false:=by simp at hk ⊢;omega
  clear hkd e hk;go_enter Tryz.func280,Tryz.ntmps280
  go_wp2_with fail
  refine (zdi hri ht).mono ?_;rintro e w1 ⟨rfl,hb⟩;have hs1:=zab ((HH.o.below hb).alloc (.cells #[.int .i64 t.k,.string ⟨t.s.toArray⟩,.int .i64 t.at_] 135));have Hb:=zab hb;clear hri ht hb;go_wp2_with fail
  refine (zfs hs1.o).mono ?_;rintro e w2 ⟨rfl,hs2,hg2⟩;have Hs2:=zab hs2;have Hg2:=zab hg2;clear hs2 hg2;go_wp2_with fail
  go_ret
  exact ⟨rfl,Hs2.o,zad (zad (zaf _ Hb.o) (zag _ _ _)) Hg2.o⟩
 ·have hhd:(zbA T n f p).hd=t:=by
   cases f with
   |false=>simp[zbA,Th.St.hd,ht]
   |true=>
    have e1:=(hri.zcr.last n t ht).2 (hri.end_ rfl);simp at hk;omega
  have hk3:t.k=3:=by simpa using hk
  have htx:=hri.zcr.text t (zxX ht);have htn:=hri.zcr.num t (zxX ht) hk3;have hat:=zab (zo1 t.s (htx.2.1 (by omega)) htn.2);have hvs:=zn1 t.s htn.1 htn.2;have hk':((t.k:Int) == 3)=true:=by simp at hk ⊢;omega
  have hk2:2<=t.k:=by omega
  obtain ⟨m,hm⟩:∃ m,Th.val t.s=m:=⟨_,rfl⟩;rw[hm]at hvs hat;have hsz9:=zab htn.1;by_cases hin:lo<=m/\m<=hi
  ·obtain ⟨h1,h2⟩:=hin;have e:Th.zaA lo hi (zbA T n f p)=(m,(zbA T n f p).adv):=by rw[Th.zaA,hkd,hk,hhd,hm];simp[h1,h2]
   rw[e];clear hkd e hk hhd htx htn hm hk3;go_enter Tryz.func280,Tryz.ntmps280
   go_wp2_with fail
   refine (zdi hri ht).mono ?_;rintro e w1 ⟨rfl,hb⟩;have hri1:=hri.below hb;have Hb:=zab hb;clear hri ht hb;go_wp2_with fail
   refine (Tryz.strconv_Atoi _ (m:Int) (by rw[ztF];have:=hsz9.o;omega) (by simpa using hat.o) _).mono ?_;rintro e w2 ⟨rfl,ts,hw⟩;have hb2:Below w.heap.size w w2:=by
    rw[hw];exact ((Hb.o.trans ((zam w1 _).mono Hb.o.size)).trans ((zkf _ _).mono (by simp;have:=Hb.o.size;omega)))
   clear hw;have hri2:=HR.o.below hb2;have c1:=hri2.blk.cell 1;have f1:=hri2.blk.frozen 1;simp at c1;have hS:=zab (HR.o.step Ht.o hk2 hb2);clear hri1 hri2 hb2;go_wp2_with fail
   go_ret
   exact ⟨rfl,hS.o.1,hS.o.2⟩
  ·have e:Th.zaA lo hi (zbA T n f p)=(0,(zbA T n f p).fail):=by
    rw[Th.zaA,hkd,hk,hhd,hm];rcases zzo m lo with h1|h1
    ·simp;omega
    ·simp;omega
   rw[e];clear hkd e hk hhd htx htn hm hk3;go_enter Tryz.func280,Tryz.ntmps280
   go_wp2_with fail
   refine (zdi hri ht).mono ?_;rintro e w1 ⟨rfl,hb⟩;have hri1:=hri.below hb;have Hb:=zab hb;clear hri ht hb;go_wp2_with fail
   refine (Tryz.strconv_Atoi _ (m:Int) (by rw[ztF];have:=hsz9.o;omega) (by simpa using hat.o) _).mono ?_;rintro e w2 ⟨rfl,ts,hw⟩;have hb2:Below w.heap.size w w2:=by
    rw[hw];exact ((Hb.o.trans ((zam w1 _).mono Hb.o.size)).trans ((zkf _ _).mono (by simp;have:=Hb.o.size;omega)))
   have hs2:=zab (HH.o.below hb2);have Hb2:=zab hb2;clear hw hb2 hri1;rcases zzo m lo with h1|h1
   ·clear hin;go_wp2_with fail
    refine (zfs hs2.o).mono ?_;rintro e w3 ⟨rfl,hs3,hg3⟩;have Hs3:=zab hs3;have Hg3:=zab hg3;clear hs3 hg3;go_wp2_with fail
    go_ret
    exact ⟨rfl,Hs3.o,zad (zaf _ Hb2.o) Hg3.o⟩
   ·have h2:hi<m:=by omega
    clear hin;go_wp2_with fail
    refine (zfs hs2.o).mono ?_;rintro e w3 ⟨rfl,hs3,hg3⟩;have Hs3:=zab hs3;have Hg3:=zab hg3;clear hs3 hg3;go_wp2_with fail
    go_ret
    exact ⟨rfl,Hs3.o,zad (zaf _ Hb2.o) Hg3.o⟩
theorem zuf(h:RS w r tb T st):
  Calls Tryz.prog 272 #[.pointer (some ⟨r,0,none⟩)] w fun e w'=>e=.returned (.int .i64 (Th.zaA 1 99 st).1)/\RS w' r tb T (Th.zaA 1 99 st).2/\w.grownBy w' (some r):=by
 go_enter Tryz.func272,Tryz.ntmps272
 go_wp2_with fail
 refine (zga h 1 99 (by omega) (by omega)).mono ?_;rintro e w1 ⟨rfl,hs,hg⟩;have Hs:=zab hs;have Hg:=zab hg;clear h hs hg;go_wp2_with fail
 go_ret
 exact ⟨rfl,Hs.o,Hg.o⟩
theorem zeD(h:RS w r tb T st):
  Calls Tryz.prog 286 #[.pointer (some ⟨r,0,none⟩)] w fun e w'=>e=.returned (.bool (Th.zcK st))/\Below w.heap.size w w':=by
 obtain ⟨t,tk,ti,th,tm,tc⟩:=zgN h;have H:=zab h;have hk2:=tk 2 (by omega);have hk3:=tk 3 (by omega);cases h2:st.kind 2
 ·have h2':((t.k:Int) == 2)=false:=by rw[hk2]at h2;simp at h2 ⊢;omega
  have HB:Hid (Th.zcK st=(st.kind 3||st.is [123]||st.is [40])):=zab (by simp[Th.zcK,h2]);clear h2;cases h3:st.kind 3
  ·have h3':((t.k:Int) == 3)=false:=by rw[hk3]at h3;simp at h3 ⊢;omega
   have HB2:Hid (Th.zcK st=(st.is [123]||st.is [40])):=zab (by rw[HB.o,h3];simp);clear h3 hk2 hk3 tk ti th tm HB;go_enter Tryz.func286,Tryz.ntmps286
   go_wp2_with fail
   refine tc.mono ?_;rintro e w1 ⟨rfl,hb⟩;have Hb:=zab hb;have hs1:=h.below hb;clear tc h hb;go_wp2_with fail
   refine (zbT hs1 ⟨#[123]⟩ (by simp)).mono ?_;rintro e w2 ⟨rfl,hb⟩;have Hb2:=zab hb;have hs2:=hs1.below hb;clear hb;cases h4:st.is [123]
   ·have H4:=zab h4;clear h4 hs1;go_wp2_with fail
    refine (zbT hs2 ⟨#[40]⟩ (by simp)).mono ?_;rintro e w3 ⟨rfl,hb⟩;have Hb3:=zab hb;clear hb hs2;go_wp2_with fail
    go_ret
    refine ⟨?_,(Hb.o.trans (Hb2.o.mono Hb.o.size)).trans (Hb3.o.mono (zxN Hb.o.size Hb2.o.size))⟩;rw[HB2.o,H4.o];rfl
   ·have H4:=zab h4;clear h4 hs1 hs2;go_wp2_with fail
    go_ret
    refine ⟨?_,Hb.o.trans (Hb2.o.mono Hb.o.size)⟩;rw[HB2.o,H4.o];rfl
  ·have h3':((t.k:Int) == 3)=true:=by rw[hk3]at h3;simp at h3 ⊢;omega
   have HB2:Hid (Th.zcK st=true):=zab (by rw[HB.o,h3];simp);clear h3 hk2 hk3 tk ti th tm HB;go_enter Tryz.func286,Tryz.ntmps286
   go_wp2_with fail
   refine tc.mono ?_;rintro e w1 ⟨rfl,hb⟩;have Hb:=zab hb;clear tc h hb;go_wp2_with fail
   go_ret
   exact ⟨by rw[HB2.o];rfl,Hb.o⟩
 ·have h2':((t.k:Int) == 2)=true:=by rw[hk2]at h2;simp at h2 ⊢;omega
  have HB2:Hid (Th.zcK st=true):=zab (by simp[Th.zcK,h2]);clear h2 hk2 hk3 tk ti th tm;go_enter Tryz.func286,Tryz.ntmps286
  go_wp2_with fail
  refine tc.mono ?_;rintro e w1 ⟨rfl,hb⟩;have Hb:=zab hb;clear tc h hb;go_wp2_with fail
  go_ret
  exact ⟨by rw[HB2.o];rfl,Hb.o⟩
theorem zfT(h:RS w r tb T st)(c:Bool):
  Calls Tryz.prog 251 #[.pointer (some ⟨r,0,none⟩),.bool c] w fun e w'=>e=.returned (.bool (Th.za6 c st))/\Below w.heap.size w w':=by
 cases h1:st.is [59]
 ·have e1:Th.za6 c st=false:=by simp[Th.za6,h1]
  rw[e1];have H1:=zab h1;clear h1 e1;go_enter Tryz.func251,Tryz.ntmps251
  go_wp2_with fail
  refine (zbT h ⟨#[59]⟩ (by simp)).mono ?_;rintro e w1 ⟨rfl,hb⟩;rw[show st.is (ByteArray.mk #[59]).data.toList=false from H1.o];have Hb:=zab hb;clear h hb;go_wp2_with fail
  go_ret
  exact ⟨rfl,Hb.o⟩
 ·have H1:=zab h1;cases c with
  |false=>
   have e1:Th.za6 false st=true:=by simp[Th.za6,h1]
   rw[e1];clear h1 e1;go_enter Tryz.func251,Tryz.ntmps251
   go_wp2_with fail
   refine (zbT h ⟨#[59]⟩ (by simp)).mono ?_;rintro e w1 ⟨rfl,hb⟩;rw[show st.is (ByteArray.mk #[59]).data.toList=true from H1.o];have Hb:=zab hb;clear h hb;go_wp2_with fail
   go_quiet (fail)
   go_wp2_with fail
   go_ret
   exact ⟨rfl,below_drewN Hb.o _⟩
  |true=>
   have h0:=h;obtain ⟨cap,n,f,p,hri,rfl⟩:=h0;obtain ⟨t,ht⟩:=hri.tok;have hk:=zlz hri ht _ (by simp) h1;have hn:n+1<T.length:=by
    have:=hri.zcr.last n t ht;have:=hri.lt;rcases zzo (n+1) T.length with h|h
    ·exact h
    ·have:t.k<=1:=(hri.zcr.last n t ht).2 (by omega);omega
   obtain ⟨t2,ht2⟩:∃ t2,T[n+1]?=some t2:=⟨T[n+1]'hn,zxI hn⟩;have hff:f=false:=by
    cases f with
    |false=>rfl
    |true=>have:=hri.end_ rfl;omega
   subst hff;have e1:Th.za6 true (zbA T n false p)=(t2.s == [60]):=by
    have e2:((zbA T n false p).rest.tail.headD Th.zm3)=t2:=by simp[zbA,ht2]
    rw[Th.za6,h1,e2];rfl
   rw[e1];have hg:=hri.zcr.len;have HR:=zab hri;have Ht2:=zab ht2;clear h1 e1 hri ht ht2 hk;go_enter Tryz.func251,Tryz.ntmps251
   go_wp2_with fail
   refine (zbT h ⟨#[59]⟩ (by simp)).mono ?_;rintro e w1 ⟨rfl,hb⟩;rw[show (zbA T n false p).is (ByteArray.mk #[59]).data.toList=true from H1.o];have Hb:=zab hb;have hri1:=HR.o.below hb;have c0:=hri1.blk.cell 0;have c1:=hri1.blk.cell 1;obtain ⟨-,d1,-⟩:=hri1.zfR (n+1) t2 Ht2.o;simp at c0 c1;clear h hb hri1;go_wp2_with fail
   go_quiet (fail)
   go_wp2_with fail
   go_ret
   exact ⟨rfl,below_drewN Hb.o _⟩
end Go.Proofs.YtgahgkddaljmkaaGreatDoor
namespace Go.Proofs.YtgahgkddaljmkaaGreatDoor
open Go.RowKit
def Row (S:Nat->Prop) (w:World) (e:TypeId) (size:Nat) (v:Value) (n:Nat) (xs:List Value):Prop:=
 w.ownsRow 0 e size v n xs/\∀ k,v.ownBlock=some k->S k
variable {S:Nat->Prop}
variable {w w':World}
variable {size n:Nat}
variable {v:Value}
variable {xs:List Value}
variable {row:Option Nat}
theorem Row.gb{e:TypeId}(h:Row S w e size v n xs)(hg:w.grownBy w' row)(hr:∀ k,row=some k->¬ S k):Row S w' e size v n xs:=by
 refine ⟨h.1.kept hg ?_,h.2⟩;cases hv:v.ownBlock with
 |none=>exact .inl rfl
 |some k=>exact .inr fun e=>hr k e.symm (h.2 k hv)
variable {S':Nat->Prop}
theorem Row.mono{e:TypeId}(h:Row S w e size v n xs)(hs:∀ k,k<w.heap.size->S k->S' k):Row S' w e size v n xs:=
 ⟨h.1,fun k hk=>hs k (h.1.lt k hk).2 (h.2 k hk)⟩
theorem zaY{base b':Nat}{e:TypeId}(h:w.ownsRow base e size v n xs)(hb:b'<=base):w.ownsRow b' e size v n xs:=by
 obtain ⟨h1,h2⟩:=h;refine ⟨h1,?_⟩;rcases h2 with h2|⟨g,cap,cur,hv,hg,r⟩
 ·exact .inl h2
 ·exact .inr ⟨g,cap,cur,hv,by omega,r⟩
theorem Row.zaE{base:Nat}{e:TypeId}(h:w.ownsRow base e size v n xs):Row (fun b=>base<=b) w e size v n xs:=
 ⟨zaY h (zx1 _),fun k hk=>(h.lt k hk).1⟩
def zaM:List Th.Tok->List Value->List Value
 |t::l,v::vs=>[.string ⟨t.s.toArray⟩,.int .i64 t.at_,v]++zaM l vs
 |_,_=>[]
def za7:List (Nat × List Th.Tok)->List Value->List Value->List Value
 |a::l,n::ns,v::vs=>[.int .i64 a.1,n,v]++za7 l ns vs
 |_,_,_=>[]
theorem zf7:∀ (l:List Th.Tok) (vs:List Value) (t:Th.Tok) (v:Value),l.length=vs.length->zaM (l++[t]) (vs++[v])=zaM l vs++[.string ⟨t.s.toArray⟩,.int .i64 t.at_,v]
 |[],[],_,_,_=>rfl
 |a::l,b::vs,t,v,h=>by
  simp only[zx5,zaM];rw[zf7 l vs t v (by simpa using h)];simp
 |[],_::_,_,_,h=>by simp at h
 |_::_,[],_,_,h=>by simp at h
theorem zgX:∀ (l:List (Nat × List Th.Tok)) (ns vs:List Value) (a:Nat × List Th.Tok) (n v:Value),l.length=ns.length->l.length=vs.length->za7 (l++[a]) (ns++[n]) (vs++[v])=za7 l ns vs++[.int .i64 a.1,n,v]
 |[],[],[],_,_,_,_,_=>rfl
 |x::l,y::ns,z::vs,a,n,v,h1,h2=>by
  simp only[zx5,za7];rw[zgX l ns vs a n v (by simpa using h1) (by simpa using h2)];simp
 |[],_::_,_,_,_,_,h,_=>by simp at h
 |[],[],_::_,_,_,_,_,h=>by simp at h
 |_::_,[],_,_,_,_,h,_=>by simp at h
 |_::_,_::_,[],_,_,_,_,h=>by simp at h
def Rep (S:Nat->Prop) (w:World):Nat->Value->Th.Ex->Prop
 |0,_,_=>False
 |n+1,v,e=>
  (e.kind=1/\v=.iface 217 (.agg #[.int .i64 e.n])) \/
  (e.kind=2/\v=.iface 215 (.agg #[.string ⟨e.tok.s.toArray⟩,.int .i64 e.tok.at_])) \/
  (e.kind=3/\v=.iface 219 (.agg #[.int .i64 e.tag,.int .i64 e.arity])) \/
  (e.kind=4/\∃ sv bv b,e.kids=[b]/\v=.iface 226 (.agg #[sv,bv])/\Row S w 88 2 sv e.names.length (zaj e.names)/\Rep S w n bv b) \/
  (e.kind=5/\∃ v1 v2 e1 e2,e.kids=[e1,e2]/\v=.iface 163 (.agg #[v1,v2])/\Rep S w n v1 e1/\Rep S w n v2 e2) \/
  (e.kind=6/\∃ v1 v2 e1 e2,e.kids=[e1,e2]/\v=.iface 166 (.agg #[.string ⟨e.tok.s.toArray⟩,v1,v2])/\Rep S w n v1 e1/\Rep S w n v2 e2) \/
  ((e.kind=7\/e.kind=8)/\∃ sv bv b parts pvs,e.kids=b::parts/\v=.iface 178 (.agg #[.bool (e.kind == 8),sv,bv])/\parts.length=e.names.length/\pvs.length=e.names.length /\
   Row S w 312 3 sv e.names.length (zaM e.names pvs)/\(∀ (i:Nat) (pv:Value) (p:Th.Ex),pvs[i]?=some pv->parts[i]?=some p->Rep S w n pv p)/\Rep S w n bv b) \/
  (e.kind=9/\∃ cv sv b bodies nvs bvs,e.kids=b::bodies/\v=.iface 173 (.agg #[cv,sv])/\bodies.length=e.zao.length/\nvs.length=e.zao.length/\bvs.length=e.zao.length /\
   Row S w 240 3 sv e.zao.length (za7 e.zao nvs bvs)/\(∀ (i:Nat) (a:Nat × List Th.Tok) (nv:Value),e.zao[i]?=some a->nvs[i]?=some nv->Row S w 88 2 nv a.2.length (zaj a.2)) /\
   (∀ (i:Nat) (bv:Value) (p:Th.Ex),bvs[i]?=some bv->bodies[i]?=some p->Rep S w n bv p)/\Rep S w n cv b)
theorem Rep.imp{S S':Nat->Prop}{w w':World}(hrow:∀ e size v n xs,Row S w e size v n xs->Row S' w' e size v n xs):∀ (n:Nat) (v:Value) (e:Th.Ex),Rep S w n v e->Rep S' w' n v e
 |0,_,_,h=>h.elim
 |n+1,v,e,h=>by
  have ih:=Rep.imp hrow n;rcases h with h|h|h|⟨hk,sv,bv,b,h1,h2,h3,h4⟩|⟨hk,v1,v2,e1,e2,h1,h2,h3,h4⟩|⟨hk,v1,v2,e1,e2,h1,h2,h3,h4⟩|⟨hk,sv,bv,b,parts,pvs,h1,h2,h3,h4,h5,h6,h7⟩|⟨hk,cv,sv,b,bodies,nvs,bvs,h1,h2,h3,h4,h5,h6,h7,h8,h9⟩
  ·exact .inl h
  ·exact .inr (.inl h)
  ·exact .inr (.inr (.inl h))
  ·exact .inr (.inr (.inr (.inl ⟨hk,sv,bv,b,h1,h2,hrow _ _ _ _ _ h3,ih _ _ h4⟩)))
  ·exact .inr (.inr (.inr (.inr (.inl ⟨hk,v1,v2,e1,e2,h1,h2,ih _ _ h3,ih _ _ h4⟩))))
  ·exact .inr (.inr (.inr (.inr (.inr (.inl ⟨hk,v1,v2,e1,e2,h1,h2,ih _ _ h3,ih _ _ h4⟩)))))
  ·exact .inr (.inr (.inr (.inr (.inr (.inr (.inl ⟨hk,sv,bv,b,parts,pvs,h1,h2,h3,h4,hrow _ _ _ _ _ h5,fun i pv p a c=>ih _ _ (h6 i pv p a c),ih _ _ h7⟩))))))
  ·exact .inr (.inr (.inr (.inr (.inr (.inr (.inr ⟨hk,cv,sv,b,bodies,nvs,bvs,h1,h2,h3,h4,h5,hrow _ _ _ _ _ h6,fun i a nv x y=>hrow _ _ _ _ _ (h7 i a nv x y),fun i bv p a c=>ih _ _ (h8 i bv p a c),ih _ _ h9⟩))))))
theorem Rep.succ{S:Nat->Prop}{w:World}:∀ (n:Nat) (v:Value) (e:Th.Ex),Rep S w n v e->Rep S w (n+1) v e
 |0,_,_,h=>h.elim
 |n+1,v,e,h=>by
  have ih:=Rep.succ (S:=S) (w:=w) n;rcases h with h|h|h|⟨hk,sv,bv,b,h1,h2,h3,h4⟩|⟨hk,v1,v2,e1,e2,h1,h2,h3,h4⟩|⟨hk,v1,v2,e1,e2,h1,h2,h3,h4⟩|⟨hk,sv,bv,b,parts,pvs,h1,h2,h3,h4,h5,h6,h7⟩|⟨hk,cv,sv,b,bodies,nvs,bvs,h1,h2,h3,h4,h5,h6,h7,h8,h9⟩
  ·exact .inl h
  ·exact .inr (.inl h)
  ·exact .inr (.inr (.inl h))
  ·exact .inr (.inr (.inr (.inl ⟨hk,sv,bv,b,h1,h2,h3,ih _ _ h4⟩)))
  ·exact .inr (.inr (.inr (.inr (.inl ⟨hk,v1,v2,e1,e2,h1,h2,ih _ _ h3,ih _ _ h4⟩))))
  ·exact .inr (.inr (.inr (.inr (.inr (.inl ⟨hk,v1,v2,e1,e2,h1,h2,ih _ _ h3,ih _ _ h4⟩)))))
  ·exact .inr (.inr (.inr (.inr (.inr (.inr (.inl ⟨hk,sv,bv,b,parts,pvs,h1,h2,h3,h4,h5,fun i pv p a c=>ih _ _ (h6 i pv p a c),ih _ _ h7⟩))))))
  ·exact .inr (.inr (.inr (.inr (.inr (.inr (.inr ⟨hk,cv,sv,b,bodies,nvs,bvs,h1,h2,h3,h4,h5,h6,h7,fun i bv p a c=>ih _ _ (h8 i bv p a c),ih _ _ h9⟩))))))
variable {e:Th.Ex}
theorem Rep.le{m:Nat}(h:Rep S w n v e)(hm:n<=m):Rep S w m v e:=by
 induction hm with
 |refl=>exact h
 |step _ ih=>exact Rep.succ _ _ _ ih
theorem Rep.gb{S:Nat->Prop}{w w':World}{n:Nat}{v:Value}{e:Th.Ex}(h:Rep S w n v e){row:Option Nat}(hg:w.grownBy w' row)(hr:∀ k,row=some k->¬ S k):Rep S w' n v e:=
 Rep.imp (fun _ _ _ _ _ hR=>hR.gb hg hr) n v e h
theorem Rep.mono{S S':Nat->Prop}{w:World}{n:Nat}{v:Value}{e:Th.Ex}(h:Rep S w n v e)(hs:∀ k,k<w.heap.size->S k->S' k):Rep S' w n v e:=
 Rep.imp (fun _ _ _ _ _ hR=>hR.mono hs) n v e h
structure One (v:Value):Prop where
 shape:v=.nilIface\/∃ t x,v=.iface t x
theorem One.cells{v:Value}(h:One v):v.cells=#[v]:=by
 rcases h.shape with rfl|⟨t,x,rfl⟩ <;> rfl
theorem One.one(h:One v):v.oneCell'=true:=by
 rcases h.shape with rfl|⟨t,x,rfl⟩ <;> rfl
theorem zxa:One .nilIface:=⟨.inl rfl⟩
theorem zbY(t:TypeId)(x:Value):One (.iface t x):=⟨.inr ⟨t,x,rfl⟩⟩
structure Got (S:Nat->Prop) (w:World) (v:Value) (e:Th.Ex) (st:Th.St):Prop where
 one:One v
 rep:st.bad=none->∃ n,Rep S w n v e
theorem Got.gb{S:Nat->Prop}{w w':World}{v:Value}{e:Th.Ex}{st:Th.St}(h:Got S w v e st){row:Option Nat}(hg:w.grownBy w' row)(hr:∀ k,row=some k->¬ S k):Got S w' v e st:=
 ⟨h.one,fun hb=>by obtain ⟨n,hn⟩:=h.rep hb;exact ⟨n,hn.gb hg hr⟩⟩
theorem Got.mono{S S':Nat->Prop}{w:World}{v:Value}{e:Th.Ex}{st:Th.St}(h:Got S w v e st)(hs:∀ k,k<w.heap.size->S k->S' k):Got S' w v e st:=
 ⟨h.one,fun hb=>by obtain ⟨n,hn⟩:=h.rep hb;exact ⟨n,hn.mono hs⟩⟩
theorem Got.st{S:Nat->Prop}{w:World}{v:Value}{e:Th.Ex}{st st':Th.St}(h:Got S w v e st)(hb:st'.bad=none->st.bad=none):Got S w v e st':=⟨h.one,fun h'=>h.rep (hb h')⟩
abbrev zat (w:World):Nat->Prop:=fun b=>w.heap.size<=b
end Go.Proofs.YtgahgkddaljmkaaGreatDoor
namespace Go.Proofs.YtgahgkddaljmkaaGreatDoor
namespace Cp
abbrev Nm:=List UInt8
def zaG (l gone:List Nm):List Nm:=l.filter fun x=>!gone.contains x
def union (l more:List Nm):List Nm:=l++zaG more l
def zas (f:Th.Ex->List Nm):List (Nat × List Th.Tok)->List Th.Ex->List Nm->List Nm
 |a::az,b::bs,l=>zas f az bs (union l (zaG (f b) (Th.texts a.2)))
 |_,_,l=>l
def zaw (f:Th.Ex->List Nm):List Th.Ex->List Nm->List Nm
 |p::ps,l=>zaw f ps (union l (f p))
 |[],l=>l
def free:Nat->Th.Ex->List Nm
 |0,_=>[]
 |n+1,e=>
  if e.kind=2 then [e.tok.s] else
  if e.kind=4 then (match e.kids with|[b]=>zaG (free n b) (Th.texts e.names)|_=>[]) else
  if e.kind=5\/e.kind=6 then (match e.kids with|[a,b]=>union (free n a) (free n b)|_=>[]) else
  if e.kind=7 then (match e.kids with|b::ps=>union (zaw (free n) ps []) (zaG (free n b) (Th.texts e.names))|_=>[]) else
  if e.kind=8 then (match e.kids with|b::ps=>union (zaG (zaw (free n) ps []) (Th.texts e.names)) (zaG (free n b) (Th.texts e.names))|_=>[]) else
  if e.kind=9 then (match e.kids with|s::bs=>union (free n s) (zas (free n) e.zao bs [])|_=>[]) else []
structure Bs where
 blocks:List (Nat × List Ins)
 zac:List Nm
 code:List Ins
def Bs.write (b:Bs) (i:Ins):Bs:={ b with code:=b.code++[i] }
def Bs.push (b:Bs) (i:Ins):Bs:={ b with code:=b.code++[i],zac:=b.zac++[[]] }
def Bs.drop (b:Bs) (c:Nat):Bs:={ b with zac:=b.zac.take (b.zac.length-c) }
def zcp (zac:List Nm) (x:Nm):Nat->Option Nat
 |0=>none
 |k+1=>if zac[k]?=some x then some k else zcp zac x k
def za8 (zac:List Nm) (x:Nm):Option Nat:=zcp zac x zac.length
def zai (zac:List Nm) (names:List Nm):List Nm:=names.filter fun x=>(za8 zac x).isSome
def Bs.use (fns:List Nm) (b:Bs) (x:Nm):Bs:=
 match za8 b.zac x with
 |some i=>b.push (.push i)
 |none=>b.push (.zcS (fns.idxOf x))
def Bs.zak (fns:List Nm) (b:Bs) (names:List Nm):Bs:=names.reverse.foldl (Bs.use fns) b
def Bs.zhw (b:Bs) (zac:List Nm) (wr:Bs->Bs):Bs × Nat:=
 let q:=wr ⟨b.blocks,zac,[]⟩
 ({ b with blocks:=q.blocks++[(zac.length,q.code)] },q.blocks.length)
def zal (wk:Th.Ex->Nat->Bs->Bs) (fr:Th.Ex->List Nm) (b:Bs) (e:Th.Ex):Bs × Nat × List Nm:=
 let names:=zai b.zac (fr e)
 let r:=if e.kind=4 then (match e.kids with|[d]=>b.zhw (names++Th.texts e.names).reverse (wk d 0)|_=>(b,0))
  else if e.kind=3 then b.zhw (List.replicate e.arity []) (fun q=>(q.write (.pack e.tag e.arity)).write .enter)
  else b.zhw names.reverse (wk e 0)
 (r.1,r.2,names)
def zaI (wk:Th.Ex->Nat->Bs->Bs) (fr:Th.Ex->List Nm) (fns:List Nm) (b:Bs) (e:Th.Ex):Bs:=
 if e.kind=2 then b.use fns e.tok.s else
 if e.kind=1 then b.push (.num e.n) else
 if e.kind=3/\e.arity=0 then b.push (.pack e.tag 0) else
 let c:=zal wk fr b e
 ((c.1.zak fns c.2.2).drop c.2.2.length).push (.close c.2.1 c.2.2.length)
def Bs.ends (b:Bs) (c:Nat) (last:Ins):Bs:=(b.write (.zcf c)).write last
def spread:Nat->Th.Ex->Th.Ex × List Th.Ex
 |0,e=>(e,[])
 |n+1,e=>
  match e.kids with
  |[f,a]=>if f.kind=5 then ((spread n f).1,(spread n f).2++[a]) else (f,[a])
  |_=>(e,[])
def armsOf (wk:Th.Ex->Nat->Bs->Bs) (names:List Nm):List (Nat × List Th.Tok)->List Th.Ex->Bs->List (Nat × Nat × Nat)->Bs × List (Nat × Nat × Nat)
 |a::az,d::ds,b,l=>
  let r:=b.zhw (Th.texts a.2++names).reverse (wk d 0)
  armsOf wk names az ds r.1 (l++[(a.1,a.2.length,r.2)])
 |_,_,b,l=>(b,l)
def makeAll (wk:Th.Ex->Nat->Bs->Bs) (fr:Th.Ex->List Nm):List Th.Ex->Bs->List (List Nm)->Bs × List (List Nm)
 |p::ps,b,l=>
  let c:=zal wk fr b p
  makeAll wk fr ps (c.1.write (.hold c.2.1 c.2.2.length)) (l++[c.2.2])
 |[],b,l=>(b,l)
def zbe (fns:List Nm):Nat->List (List Nm)->Bs->Bs
 |i,names::l,b=>zbe fns (i+1) l (((b.zak fns names).drop names.length).write (.fill i names.length))
 |_,[],b=>b
def zkm (wk:Th.Ex->Nat->Bs->Bs) (fr:Th.Ex->List Nm) (fns:List Nm) (e:Th.Ex) (b:Bs):Bs:=
 match e.kids with
 |d::ps=>
  if e.kind=8 then
   let r:=makeAll wk fr ps { b with zac:=b.zac++Th.texts e.names } []
   wk d 0 (zbe fns b.zac.length r.2 r.1)
  else
   let b1:=ps.foldl (zaI wk fr fns) b
   wk d 0 { b1 with zac:=Go.splice b1.zac b.zac.length (Th.texts e.names) }
 |[]=>b
def work (fr:Th.Ex->List Nm) (fns:List Nm):Nat->Th.Ex->Nat->Bs->Bs
 |0,_,_,b=>b
 |n+1,e,below,b=>
  if e.kind=5 then
   let s:=spread (n+1) e
   let b1:=s.2.reverse.foldl (zaI (work fr fns n) fr fns) b
   work fr fns n s.1 (below+s.2.length+1) (b1.push (.zbD s.2.length))
  else if e.kind=6 then
   match e.kids with
   |[l,r]=>
    let names:=zai b.zac (fr r)
    let c:=b.zhw ([]::names).reverse fun q=>
     let d:=((q.write .zbV).push (.push (q.zac.length-1))).zhw [[],[]] fun z=>(z.write (.comp ⟨e.tok.s.toArray⟩)).write .enter
     work fr fns n r 2 (d.1.push (.wait d.2))
    work fr fns n l (below+names.length+1) ((c.1.zak fns names).push (.wait c.2))
   |_=>b
  else if e.kind=9 then
   match e.kids with
   |s::ds=>
    let names:=zai b.zac (zas fr e.zao ds [])
    let c:=b.zhw ([]::names).reverse fun q=>
     let a:=armsOf (work fr fns n) names e.zao ds q []
     a.1.write (.choose a.2)
    work fr fns n s (below+names.length+1) ((c.1.zak fns names).push (.wait c.2))
   |_=>b
  else if e.kind=7\/e.kind=8 then
   if below=0 then zkm (work fr fns n) fr fns e b
   else
    let names:=zai b.zac (fr e)
    let c:=(b.zak fns names).zhw names.reverse (zkm (work fr fns n) fr fns e)
    c.1.ends (below+names.length) (.jump c.2)
  else (zaI (work fr fns n) fr fns b e).ends (below+1) .enter
def lines (fr:Th.Ex->List Nm) (fns:List Nm) (n:Nat):Nat->List Th.zbq->List (Nat × List Ins)->List (Nat × List Ins)
 |i,f::l,bl=>
  let zac:=(Th.texts f.params).reverse
  let q:=work fr fns n f.e 0 ⟨bl,zac,[]⟩
  lines fr fns n (i+1) l (q.blocks.set i (zac.length,q.code))
 |_,[],bl=>bl
def program (n:Nat) (l:List Th.zbq):List (Nat × List Ins):=lines (free n) (l.map fun f=>f.name.s) n 0 l (List.replicate l.length (0,[]))
end Cp
end Go.Proofs.YtgahgkddaljmkaaGreatDoor
namespace Go.Proofs.YtgahgkddaljmkaaGreatDoor
open Go.RowKit
attribute [local go_sem] zc5 zc0 zc2
theorem zaC(x:List UInt8)(st:Th.St):(Th.want x st).bad=none->st.bad=none:=by
 intro h;unfold Th.want at h;split at h
 ·simpa [Th.St.adv] using h
 ·unfold Th.St.fail at h;split at h
  ·simp at h
  ·exact h
theorem zdQ(lo hi:Nat)(st:Th.St):(Th.zaA lo hi st).2.bad=none->st.bad=none:=by
 intro h;unfold Th.zaA at h;split at h
 ·simpa [Th.St.adv] using h
 ·simp only at h;unfold Th.St.fail at h;split at h
  ·simp at h
  ·exact h
def Reads (w:World) (r tb:Nat) (T:List Th.Tok) (e:Th.Ex) (st':Th.St) (en:Ending) (w':World):Prop:=
 ∃ v,en=.returned v/\Got (zat w) w' v e st'/\RS w' r tb T st'/\w.grownBy w' (some r)
variable {w:World}
variable {r tb:Nat}
variable {T:List Th.Tok}
variable {st:Th.St}
theorem zt5(h:RS w r tb T st):
  Calls Tryz.prog 290 #[.pointer (some ⟨r,0,none⟩)] w fun en w'=>Reads w r tb T (Th.zdf st).1 (Th.zdf st).2 en w':=by
 have hrl:=h.lt;have htl:=h.tlt;go_enter Tryz.func290,Tryz.ntmps290
 go_wp2_with fail
 refine (zuf h).mono ?_;rintro e w1 ⟨rfl,hs1,hg1⟩;generalize ha:Th.zaA 1 99 st=a at hs1 ⊢;have Ha:=zab ha;have Hs1:=zab (hs1.alloc (.cells #[.int .i64 a.1,.int .i64 0] 219));have Hg1:=zab hg1;have hz:=hg1.size;have B0:=zab (Blk.new w1 [.int .i64 a.1,.int .i64 0] 219);clear h ha hs1 hg1;go_wp2_with fail
 refine (zaW Hs1.o ⟨#[44]⟩ (by simp)).mono ?_;rintro e w2 ⟨rfl,hs2,hg2⟩;have B1:=zab (B0.o.grown hg2 (by simp;omega));have Hg2:=zab hg2;clear hg2;go_wp2_with fail
 refine (zga hs2 0 9 (by omega) (by omega)).mono ?_;rintro e w3 ⟨rfl,hs3,hg3⟩;clear hs2;generalize hb:Th.zaA 0 9 _=b at hs3 ⊢;have B2:=B1.o.grown hg3 (by simp;omega);have c1:=B2.cell 1;have f1:=B2.frozen 1;simp at c1;have HB2:=zab B2;have Hb:=zab hb;have Hg3:=zab hg3;have Hs3:=zab (hs3.set w1.heap.size 1 (.int .i64 b.1) (by omega) (by omega));clear hs3 hg3 hb B2;go_wp2_with fail
 refine (zaW Hs3.o ⟨#[125]⟩ (by simp)).mono ?_;rintro e w4 ⟨rfl,hs4,hg4⟩;have B3:=(HB2.o.set 1 (.int .i64 b.1)).grown hg4 (by simp;omega);have d0:=B3.cell 0;have d1:=B3.cell 1;simp at d0 d1;have Hs4:=zab hs4;have Hg4:=zab hg4;clear hs4 hg4 B3 c1 f1;go_wp2_with fail
 go_ret
 have ea:Th.zdf st=(Th.zcU a.1 b.1,Th.want [125] b.2):=by
  unfold Th.zdf;simp only[Ha.o];rw[show Th.zaA 0 9 (Th.want [44] a.2)=b from Hb.o]
 rw[ea];have hG:w.grownBy w4 (some r):=zad (zap (zad (zad (zad Hg1.o (zag _ _ _)) Hg2.o) Hg3.o) _ _ hz) Hg4.o;exact ⟨_,rfl,⟨zbY _ _,fun _=>⟨1,.inr (.inr (.inl ⟨rfl,rfl⟩))⟩⟩,Hs4.o,hG⟩
def zr0 (ex:Th.Rd):Prop:=∀ (c:Bool) (st:Th.St) (q:Th.Ex × Th.St) (w:World) (r tb:Nat) (T:List Th.Tok),ex c st=some q->RS w r tb T st ->
 Calls Tryz.prog 118 #[.pointer (some ⟨r,0,none⟩),.bool c] w fun en w'=>Reads w r tb T q.1 q.2 en w'
theorem zhZ{x:List UInt8}(h:st.is x=true):st.bad=none:=by
 obtain ⟨rest,bad⟩:=st;cases bad with
 |some p=>simp[Th.St.is]at h
 |none=>rfl
theorem ztZ(h:r<w.heap.size):∀ k,some r=some k->¬ zat w k:=by
 intro k e;simp at e;subst e;simp only[zat];omega
theorem zr8{ex:Th.Rd}(hx:zr0 ex){q:Th.Ex × Th.St}(hq:Th.zeL ex st=some q)(h:RS w r tb T st):
  Calls Tryz.prog 285 #[.pointer (some ⟨r,0,none⟩)] w fun en w'=>Reads w r tb T q.1 q.2 en w':=by
 have hrl:=h.lt;have htl:=h.tlt;obtain ⟨t,tk,ti,th,tm,tc⟩:=zgN h;have hk2:=tk 2 (by omega);have hk3:=tk 3 (by omega);have HH:=zab h;have HQ:=zab hq;clear hq;cases h2:st.kind 2
 ·have h2':((t.k:Int) == 2)=false:=by rw[hk2]at h2;simp at h2 ⊢;omega
  have H2:=zab h2;clear h2 hk2;cases h3:st.kind 3
  ·have h3':((t.k:Int) == 3)=false:=by rw[hk3]at h3;simp at h3 ⊢;omega
   have H3:=zab h3;clear h3 hk3;have e0:Hid (Th.zeL ex st=if st.is [123] then some (Th.zdf st.adv) else if st.is [40] then (ex false st.adv).bind fun r=>some (r.1,Th.want [41] r.2) else some (Th.ex0,st.fail)):=zab (by rw[Th.zeL,H2.o,H3.o];simp);clear tk ti th tm;go_enter Tryz.func285,Tryz.ntmps285
   go_wp2_with fail
   refine tc.mono ?_;rintro e w1 ⟨rfl,hb⟩;have Hs1:=zab (h.below hb);have Hb:=zab hb;clear tc h hb;go_wp2_with fail
   obtain ⟨t1,tk1,-,-,-,tc1⟩:=zgN Hs1.o;have h3'':((t1.k:Int) == 3)=false:=by have:=tk1 3 (by omega);rw[H3.o]at this;simp at this ⊢;omega
   clear tk1;refine tc1.mono ?_;rintro e w2 ⟨rfl,hb2⟩;have Hs2:=zab (Hs1.o.below hb2);have Hb2:=zab (Hb.o.trans (hb2.mono Hb.o.size));clear tc1 hb2;go_wp2_with fail
   refine (zbF Hs2.o ⟨#[123]⟩ (by simp)).mono ?_;rintro e w3 ⟨rfl,hs3,hg3⟩;have Hg3:=zab (zad (zaf _ Hb2.o) hg3);clear hg3;cases h4:st.is [123]
   ·rw[show st.is (ByteArray.mk #[123]).data.toList=false from h4]at hs3;have Hs3:Hid (RS w3 r tb T st):=zab (by simpa using hs3);have H4:=zab h4;clear hs3 h4;go_wp2_with fail
    refine (zbF Hs3.o ⟨#[40]⟩ (by simp)).mono ?_;rintro e w4 ⟨rfl,hs4,hg4⟩;have Hg4:=zab (zad Hg3.o hg4);clear hg4;cases h5:st.is [40]
    ·rw[show st.is (ByteArray.mk #[40]).data.toList=false from h5]at hs4;have Hs4:Hid (RS w4 r tb T st):=zab (by simpa using hs4);have e1:=HQ.o;rw[e0.o,H4.o,h5]at e1;simp at e1;subst e1;clear hs4 h5;go_wp2_with fail
     refine (zfs Hs4.o).mono ?_;rintro e w5 ⟨rfl,hs5,hg5⟩;have Hs5:=zab hs5;have Hg5:=zab (zad Hg4.o hg5);clear hs5 hg5;go_wp2_with fail
     go_ret
     refine ⟨_,rfl,⟨zxa,fun hb=>?_⟩,Hs5.o,Hg5.o⟩;unfold Th.St.fail at hb;split at hb <;> simp_all
    ·rw[show st.is (ByteArray.mk #[40]).data.toList=true from h5]at hs4;have Hs4:Hid (RS w4 r tb T st.adv):=zab (by simpa using hs4);have e1:=HQ.o;rw[e0.o,H4.o,h5]at e1;simp only[zys,if_false,if_true,zxM]at e1;obtain ⟨q1,hq1,hq2⟩:=e1;simp only[zxL]at hq2;subst hq2;have Hq1:=zab hq1;clear hs4 h5 hq1;go_wp2_with fail
     refine (hx _ _ _ _ _ _ _ Hq1.o Hs4.o).mono ?_;rintro en w5 ⟨v,rfl,hgot,hs5,hg5⟩;have Hgot:=zab hgot;have hc:=hgot.one.cells;have Hg5:=zab (zad Hg4.o hg5);clear hgot hg5;go_wp2_with fail
     refine (zaW hs5 ⟨#[41]⟩ (by simp)).mono ?_;rintro e w6 ⟨rfl,hs6,hg6⟩;have Hs6:=zab hs6;have Hg6:=zab hg6;clear hs5 hs6 hg6;go_wp2_with fail
     go_ret
     have hz:=Hg4.o.size;refine ⟨v,rfl,?_,Hs6.o,zad Hg5.o Hg6.o⟩;refine Got.st ?_ (zaC [41] q1.2);exact (Hgot.o.mono (fun k _ hk=>zxN hz hk)).gb Hg6.o (ztZ hrl)
   ·rw[show st.is (ByteArray.mk #[123]).data.toList=true from h4]at hs3;have Hs3:Hid (RS w3 r tb T st.adv):=zab (by simpa using hs3);have e1:=HQ.o;rw[e0.o,h4]at e1;simp only[if_true,zxL]at e1;subst e1;clear hs3 h4;go_wp2_with fail
    refine (zt5 Hs3.o).mono ?_;rintro en w4 ⟨v,rfl,hgot,hs4,hg4⟩;have Hgot:=zab hgot;have hc:=hgot.one.cells;have Hs4:=zab hs4;have Hg4:=zab hg4;clear hgot hg4 hs4;go_wp2_with fail
    go_ret
    exact ⟨v,rfl,Hgot.o.mono (fun k _ hk=>zxN Hg3.o.size hk),Hs4.o,zad Hg3.o Hg4.o⟩
  ·have h3':((t.k:Int) == 3)=true:=by rw[hk3]at h3;simp at h3 ⊢;omega
   have H3:=zab h3;have hth:st.hd=t:=th (zvE h3);have hk3':t.k=3:=by rw[hk3]at h3;simpa using h3
   have htn:=h.zcr.num t tm hk3';have hv:=zn1 t.s htn.1 htn.2;have ep:Hid (Th.zaA 0 2147483647 st=(Th.val st.hd.s,st.adv)):=zab (by rw[Th.zaA,h3,hth];simp;omega);have e1:Th.zeL ex st=some (Th.mkNum (Th.val st.hd.s),st.adv):=by rw[Th.zeL,H2.o,h3];simp
   have e2:=HQ.o;rw[e1]at e2;simp only[zxL]at e2;subst e2;clear h3 hk3 hth hk3' htn hv e1 tk ti th tm;go_enter Tryz.func285,Tryz.ntmps285
   go_wp2_with fail
   refine tc.mono ?_;rintro e w1 ⟨rfl,hb⟩;have Hs1:=zab (h.below hb);have Hb:=zab hb;clear tc h hb;go_wp2_with fail
   obtain ⟨t1,tk1,-,-,-,tc1⟩:=zgN Hs1.o;have h3'':((t1.k:Int) == 3)=true:=by have:=tk1 3 (by omega);rw[H3.o]at this;simp at this ⊢;omega
   clear tk1;refine tc1.mono ?_;rintro e w2 ⟨rfl,hb2⟩;have Hs2:=zab (Hs1.o.below hb2);have Hb2:=zab (Hb.o.trans (hb2.mono Hb.o.size));clear tc1 hb2;go_wp2_with fail
   refine (zga Hs2.o 0 2147483647 (by omega) (by omega)).mono ?_;rintro e w3 ⟨rfl,hs3,hg3⟩;rw[ep.o]at hs3 ⊢;have Hs3:=zab hs3;have Hg3:=zab (zad (zaf _ Hb2.o) hg3);clear hs3 hg3;go_wp2_with fail
   go_ret
   exact ⟨_,rfl,⟨zbY _ _,fun _=>⟨1,.inl ⟨rfl,rfl⟩⟩⟩,Hs3.o,Hg3.o⟩
 ·have h2':((t.k:Int) == 2)=true:=by rw[hk2]at h2;simp at h2 ⊢;omega
  have H2:=zab h2;have ep:Hid (Th.zaK st=(st.hd,st.adv)):=zab (by simp[Th.zaK,h2]);have e1:Th.zeL ex st=some (Th.zcq st.hd,st.adv):=by rw[Th.zeL,h2];simp
  have e2:=HQ.o;rw[e1]at e2;simp only[zxL]at e2;subst e2;clear h2 hk2 hk3 e1 tk ti th tm;go_enter Tryz.func285,Tryz.ntmps285
  go_wp2_with fail
  refine tc.mono ?_;rintro e w1 ⟨rfl,hb⟩;have Hs1:=zab (h.below hb);have Hb:=zab hb;clear tc h hb;go_wp2_with fail
  refine (zgH Hs1.o).mono ?_;rintro e w3 ⟨rfl,hs3,hg3⟩;rw[ep.o]at hs3 ⊢;have Hs3:=zab hs3;have Hg3:=zab (zad (zaf _ Hb.o) hg3);clear hs3 hg3;go_wp2_with fail
  go_ret
  exact ⟨_,rfl,⟨zbY _ _,fun _=>⟨1,.inr (.inl ⟨rfl,rfl⟩)⟩⟩,Hs3.o,Hg3.o⟩
end Go.Proofs.YtgahgkddaljmkaaGreatDoor
