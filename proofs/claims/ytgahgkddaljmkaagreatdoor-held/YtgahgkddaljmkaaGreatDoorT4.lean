/- Scan4 .. Par5 -/
import Derived.Test.YtgahgkddaljmkaaGreatDoorT3
set_option maxRecDepth 100000
set_option maxHeartbeats 4000000
namespace Go.Proofs.YtgahgkddaljmkaaGreatDoor
open Tryz
open Go.RowKit
theorem zwU(c:UInt8):Th.isLet c=zdl c.toNat:=by
 unfold Th.isLet zdl;rw[zAa];simp;omega
theorem zxV(q:UInt8->Bool)(l:List UInt8):l.take (l.takeWhile q).length=l.takeWhile q:=by
 induction l with
 |nil=>rfl
 |cons c l ih=>by_cases h:q c <;> simp[h,ih]
theorem zwS(q:UInt8->Bool)(s:ByteArray):(s.extract 0 (s.data.toList.takeWhile q).length).data.toList=s.data.toList.takeWhile q:=by
 rw[Lib.extract_data];simp only[zzY,zAl,zxV]
theorem zuI(q:UInt8->Bool)(l:List UInt8):(l.takeWhile q).length<=l.length:=(List.takeWhile_prefix q).length_le
variable {l:List UInt8}{c:UInt8}
theorem zta{r:List UInt8}(e:l=c::r)(h:Th.isLet c=true):Th.first l=Th.word (l.takeWhile Th.zlx):=by
 subst e;simp only[Th.first,h,if_true]
theorem zs9{r:List UInt8}(e:l=c::r)(h:Th.isLet c=false)(h1:0<(l.takeWhile Th.zba).length):Th.first l=Th.zo7 (l.takeWhile Th.zba):=by
 subst e;have hd:Th.zba c=true:=by
  rw[<-Bool.not_eq_false];intro hc;simp[hc]at h1
 simp only[Th.first,h,hd,if_true,zzw,if_false]
theorem zwR{r:List UInt8}(h1:¬ 0<((c::r).takeWhile Th.zba).length):Th.zba c=false:=by
 rw[<-Bool.not_eq_true];intro hc;simp[hc]at h1
theorem zru{r:List UInt8}(e:l=c::r)(h:Th.isLet c=false)(h1:¬ 0<(l.takeWhile Th.zba).length)(h2:0<Th.zbH l):Th.first l=(4,l.take (Th.zbH l)):=by
 subst e;simp only[Th.first,h,zwR h1,zzw,if_false];rw[if_neg (by omega)]
theorem zs8{r:List UInt8}(e:l=c::r)(h:Th.isLet c=false)(h1:¬ 0<(l.takeWhile Th.zba).length)(h2:¬ 0<Th.zbH l):Th.first l=(1,[]):=by
 subst e;simp only[Th.first,h,zwR h1,zzw,if_false];rw[if_pos (by omega)]
theorem zlP(l:List UInt8):Th.zbH l<=l.length:=by
 unfold Th.zbH;split
 ·next h=>
  match l,h with
  |[],h=>simp at h
  |[c],h=>simp at h
  |c::d::r,_=>simp
 ·cases l with
  |nil=>simp
  |cons c r=>simp only;split <;> simp
theorem ba_ne(s:ByteArray)(h:0<s.size):s.toList.isEmpty=false:=by
 obtain ⟨r,hr⟩:=zpe s h;rw[ByteArray.toList_eq,hr];rfl
theorem zuY(c:UInt8):wrap32 (c.toNat:Int)=c.toNat:=by
 have:=c.toNat_lt;unfold wrap32;omega
theorem zs7(s:ByteArray)(w:World)(hs:s.size<9223372036854775807):
  Calls prog 190 #[.string s] w fun e w'=>e=.returned (zsb (Th.first s.data.toList).1 (Th.first s.data.toList).2 0)/\Below w.heap.size w w':=by
 by_cases h0:0<s.size
 ·have he:s.toList.isEmpty=false:=ba_ne s h0;obtain ⟨r,hr⟩:=zpe s h0;have Hr:=zab hr;clear hr;have hw:=zuY s[0];cases h1:zdl (wrap32 s[0].toNat)
  ·have H1:=zab h1;clear h1;have H2:Hid (Th.isLet s[0]=false):=zab (by rw[zwU,<-hw];exact H1.o);clear hw;have hle:(s.data.toList.takeWhile Th.zba).length<=s.size:=by have:=zuI Th.zba s.data.toList;simpa using this
   have xH:Th.zbH s.data.toList<=s.size:=by have:=zlP s.data.toList;simpa using this
   obtain ⟨n,hn⟩:∃ n,(s.data.toList.takeWhile Th.zba).length=n:=⟨_,rfl⟩;obtain ⟨m,hm⟩:∃ m,Th.zbH s.data.toList=m:=⟨_,rfl⟩;rw[hn]at hle;rw[hm]at xH;have Hn:=zab hn;clear hn;have Hm:=zab hm;clear hm;go_enter func190,ntmps190
   go_wp2_with fail
   refine (zdz _ _).mono ?_;rintro e w' ⟨rfl,rfl⟩;rw[H1.o];go_wp2_with fail
   refine (zwj _ _ hs).mono ?_;rintro e w' ⟨rfl,pos,rfl⟩;rw[Hn.o];by_cases hd:0<n
   ·go_wp2_with fail
    refine (zrL _ _ (by rw[ByteArray.size_extract];omega)).mono ?_;rintro e w1 ⟨rfl,hb⟩;rw[show (s.extract 0 n).data.toList=s.data.toList.takeWhile Th.zba from by rw[<-Hn.o];exact zwS _ _];obtain ⟨⟨k,t⟩,jI⟩:∃ x,Th.zo7 (s.data.toList.takeWhile Th.zba)=x:=⟨_,rfl⟩;rw[jI];have Hk:Hid (Th.first s.data.toList=(k,t)):=zab ((zs9 Hr.o H2.o (by rw[Hn.o];exact hd)).trans jI);clear jI;have B:=(((Blk.new w [.int .i64 0,.string ⟨#[]⟩,.int .i64 0] 135).alloc (.stringIter s pos))).below hb (by simp;omega);have c0:=B.cell 0;have c1:=B.cell 1;have c2:=B.cell 2;have f0:=B.frozen 0;have f1:=B.frozen 1;have f2:=B.frozen 2;simp at c0 c1 c2;have B3:=zab (((B.set 0 (.int .i64 k)).set 1 (.string ⟨t.toArray⟩)).set 2 (.int .i64 0));clear B;go_wp2_with fail
    have q0:=B3.o.cell 0;have q1:=B3.o.cell 1;have q2:=B3.o.cell 2;simp at q0 q1 q2;refine bodyPost_ret (v:=zsb k t 0) (by simp[results,Tryz.results190,go_sem,q0,q1,q2]) rfl ⟨by rw[Hk.o],?_⟩;exact zbk (zap (zap (zap (zad (zad (zag w _ none) (zag _ _ none)) (zaf none hb)) _ _ (zyN _)) _ _ (zyN _)) _ _ (zyN _))
   ·go_wp2_with fail
    refine (zkJ _ _ h0).mono ?_;rintro e w1 ⟨rfl,rfl⟩;rw[Hm.o];by_cases Ag:0<m
    ·go_wp2_with fail
     go_returns
     refine ⟨?_,zbk (zad (zag w _ none) (zag _ _ none))⟩;rw[zru Hr.o H2.o (by rw[Hn.o];exact hd) (by rw[Hm.o];exact Ag),Hm.o];rw[zsb,show (⟨(s.data.toList.take m).toArray⟩:ByteArray)=s.extract 0 m from by rw[<-znp (s.extract 0 m),Lib.extract_data];simp];rfl
    ·go_wp2_with fail
     go_returns
     refine ⟨?_,zbk (zad (zag w _ none) (zag _ _ none))⟩;rw[zs8 Hr.o H2.o (by rw[Hn.o];exact hd) (by rw[Hm.o];exact Ag)];rfl
  ·have H1:=zab h1;clear h1;have H2:Hid (Th.isLet s[0]=true):=zab (by rw[zwU,<-hw];exact H1.o);clear hw;have hle:(s.data.toList.takeWhile Th.zlx).length<=s.size:=by have:=zuI Th.zlx s.data.toList;simpa using this
   obtain ⟨n,hn⟩:∃ n,(s.data.toList.takeWhile Th.zlx).length=n:=⟨_,rfl⟩;rw[hn]at hle;have Hn:=zab hn;clear hn;go_enter func190,ntmps190
   go_wp2_with fail
   refine (zdz _ _).mono ?_;rintro e w' ⟨rfl,rfl⟩;rw[H1.o];go_wp2_with fail
   refine (zxS _ _ hs).mono ?_;rintro e w' ⟨rfl,pos,rfl⟩;rw[Hn.o];go_wp2_with fail
   refine (zwF _ _).mono ?_;rintro e w1 ⟨rfl,hb⟩;rw[show (s.extract 0 n).data.toList=s.data.toList.takeWhile Th.zlx from by rw[<-Hn.o];exact zwS _ _];obtain ⟨⟨k,t⟩,jI⟩:∃ x,Th.word (s.data.toList.takeWhile Th.zlx)=x:=⟨_,rfl⟩;rw[jI];have Hk:Hid (Th.first s.data.toList=(k,t)):=zab ((zta Hr.o H2.o).trans jI);clear jI;have B:=(((Blk.new w [.int .i64 0,.string ⟨#[]⟩,.int .i64 0] 135).alloc (.stringIter s pos))).below hb (by simp;omega);have c0:=B.cell 0;have c1:=B.cell 1;have c2:=B.cell 2;have f0:=B.frozen 0;have f1:=B.frozen 1;have f2:=B.frozen 2;simp at c0 c1 c2;have B3:=zab (((B.set 0 (.int .i64 k)).set 1 (.string ⟨t.toArray⟩)).set 2 (.int .i64 0));clear B;go_wp2_with fail
   have q0:=B3.o.cell 0;have q1:=B3.o.cell 1;have q2:=B3.o.cell 2;simp at q0 q1 q2;refine bodyPost_ret (v:=zsb k t 0) (by simp[results,Tryz.results190,go_sem,q0,q1,q2]) rfl ⟨by rw[Hk.o],?_⟩;exact zbk (zap (zap (zap (zad (zad (zag w _ none) (zag _ _ none)) (zaf none hb)) _ _ (zyN _)) _ _ (zyN _)) _ _ (zyN _))
 ·have he:s.toList.isEmpty=true:=by rw[ByteArray.toList_eq,List.isEmpty_iff,<-zzn,sz];omega
  go_enter func190,ntmps190
  go_wp2_with fail
  go_returns
  refine ⟨?_,zam _ _⟩;rw[List.isEmpty_iff,ByteArray.toList_eq]at he;rw[he];rfl
end Go.Proofs.YtgahgkddaljmkaaGreatDoor
namespace Go.Proofs.YtgahgkddaljmkaaGreatDoor
open Tryz
open Go.RowKit
attribute [local go_sem] zcZ zc0 zc1
def zno (w:World) (tb:Nat) (T:List Th.Tok):Prop:=
 ∀ i t,T[i]?=some t->w.cell? ⟨tb,i*3,none⟩=some (.int .i64 t.k)/\w.cell? ⟨tb,i*3+1,none⟩=some (.string ⟨t.s.toArray⟩)/\w.cell? ⟨tb,i*3+2,none⟩=some (.int .i64 t.at_)
structure Good (T:List Th.Tok):Prop where
 len:T.length<=100000
 last:∀ i t,T[i]?=some t->(t.k<=1↔i+1=T.length)
 text:∀ t∈T,(t.k<=1->t.s=[])/\(2<=t.k->t.s≠[])/\t.k<=4/\t.at_<=100000/\t.s.length<=100000
 num:∀ t∈T,t.k=3->t.s.length<=9/\∀ c∈t.s,Th.zba c=true
structure RI (w:World) (r tb cap:Nat) (T:List Th.Tok) (n:Nat) (f:Bool) (p:Nat):Prop where
 blk:Blk w r [.slice (some ⟨tb,0,none⟩) T.length cap,.int .i64 n,.bool f,.int .i64 p] 132
 zdN:zno w tb T
 ne:tb≠r
 lt:n<T.length
 zct:Good T
 end_:f=true->n+1=T.length
 cap_:T.length<=cap
def zby (T:List Th.Tok) (n:Nat) (f:Bool) (p:Nat):Th.St:=if f then ⟨[],some p⟩ else ⟨T.drop n,none⟩
variable {w:World}{r tb cap:Nat}{T:List Th.Tok}{n:Nat}{t:Th.Tok}
theorem zoL(c0:w.cell? ⟨r,0,none⟩=some (.slice (some ⟨tb,0,none⟩) T.length cap))(c1:w.cell? ⟨r,1,none⟩=some (.int .i64 n))(hk:zno w tb T)(hn:n<T.length)(_hg:T.length<=100000)(ht:T[n]?=some t):
  Calls prog 67 #[.pointer (some ⟨r,0,none⟩)] w fun e w'=>e=.returned (.agg #[.int .i64 t.k,.string ⟨t.s.toArray⟩,.int .i64 t.at_])/\Below w.heap.size w w':=by
 have hl:=zeK c0;obtain ⟨d0,d1,d2⟩:=hk n t ht;have hb:=zeK d0;clear hk ht;go_enter func67,ntmps67
 go_wp2_with fail
 go_region
 go_wp2_with fail
 go_returns
 exact ⟨rfl,(zam _ _).drew⟩
variable {f:Bool}{p:Nat}
theorem zdm(h:RI w r tb cap T n f p)(ht:T[n]?=some t):
  Calls prog 67 #[.pointer (some ⟨r,0,none⟩)] w fun e w'=>e=.returned (.agg #[.int .i64 t.k,.string ⟨t.s.toArray⟩,.int .i64 t.at_])/\Below w.heap.size w w':=
 zoL (cap:=cap) (by simpa using h.blk.cell 0) (by simpa using h.blk.cell 1) h.zdN h.lt h.zct.len ht
variable {w':World}{row:Option Nat}
theorem zno.gb(h:zno w tb T)(hg:w.grownBy w' row)(hr:some tb≠row):zno w' tb T:=
 fun i t ht=>⟨zma hg (h i t ht).1 hr,zma hg (h i t ht).2.1 hr,zma hg (h i t ht).2.2 hr⟩
theorem RI.gb{w w':World}{r tb cap:Nat}{T:List Th.Tok}{n:Nat}{f:Bool}{p:Nat}(h:RI w r tb cap T n f p){row:Option Nat}(hg:w.grownBy w' row)(hr:some r≠row)(ht:some tb≠row):RI w' r tb cap T n f p:=
 ⟨h.blk.grown hg hr,h.zdN.gb hg ht,h.ne,h.lt,h.zct,h.end_,h.cap_⟩
theorem RI.below(h:RI w r tb cap T n f p)(hb:Below w.heap.size w w'):RI w' r tb cap T n f p:=
 h.gb (zaf none hb) (by simp) (by simp)
def RS (w:World) (r tb:Nat) (T:List Th.Tok) (st:Th.St):Prop:=∃ cap n f p,RI w r tb cap T n f p/\st=zby T n f p
theorem RS.below{w w':World}{r tb:Nat}{T:List Th.Tok}{st:Th.St}(h:RS w r tb T st)(hb:Below w.heap.size w w'):RS w' r tb T st:=by
 obtain ⟨cap,n,f,p,h,e⟩:=h;exact ⟨cap,n,f,p,h.below hb,e⟩
theorem RS.gb{w w':World}{r tb:Nat}{T:List Th.Tok}{st:Th.St}(h:RS w r tb T st){row:Option Nat}(hg:w.grownBy w' row)(hr:some r≠row)(ht:some tb≠row):RS w' r tb T st:=by
 obtain ⟨cap,n,f,p,h,e⟩:=h;exact ⟨cap,n,f,p,h.gb hg hr ht,e⟩
variable {st:Th.St}
theorem RS.tlt(h:RS w r tb T st):tb<w.heap.size:=by
 obtain ⟨cap,n,f,p,h,e⟩:=h;exact zeK (h.zdN n (T[n]'h.lt) (zyM h.lt)).1
theorem RS.ne{w:World}{r tb:Nat}{T:List Th.Tok}{st:Th.St}(h:RS w r tb T st):tb≠r:=by
 obtain ⟨cap,n,f,p,h,e⟩:=h;exact h.ne
theorem RS.set(h:RS w r tb T st)(b o:Nat)(v:Value)(hr:r≠b)(ht:tb≠b):RS (w.setCell ⟨b,o,none⟩ v) r tb T st:=
 h.gb (zaT w b o v) (by simp;exact hr) (by simp;exact ht)
theorem RS.alloc{w:World}{r tb:Nat}{T:List Th.Tok}{st:Th.St}(h:RS w r tb T st)(o:Obj):RS (w.alloc o) r tb T st:=h.below (zam w o)
theorem RS.zct{w:World}{r tb:Nat}{T:List Th.Tok}{st:Th.St}(h:RS w r tb T st):Good T:=by
 obtain ⟨cap,n,f,p,h,e⟩:=h;exact h.zct
theorem RS.lt{w:World}{r tb:Nat}{T:List Th.Tok}{st:Th.St}(h:RS w r tb T st):r<w.heap.size:=by
 obtain ⟨cap,n,f,p,h,e⟩:=h;exact h.blk.lt
theorem RI.tok(h:RI w r tb cap T n f p):∃ t,T[n]?=some t:=
 ⟨T[n]'h.lt,zyM h.lt⟩
theorem zst(h:RI w r tb cap T n f p)(ht:T[n]?=some t)(x:List UInt8)(hx:x≠[]):
  (zby T n f p).is x=(t.s == x):=by
 cases f with
 |false=>simp[zby,Th.St.is,Th.St.hd,ht]
 |true=>
  have e:=h.end_ rfl;have hk:=(h.zct.last n t ht).2 e;have hs:=(h.zct.text t (zy1 ht)).1 hk;rw[hs];simp[zby,Th.St.is];exact hx
theorem zl3(h:RI w r tb cap T n f p)(ht:T[n]?=some t)(k:Nat)(hk:2<=k):
  (zby T n f p).kind k=(t.k == k):=by
 cases f with
 |false=>simp[zby,Th.St.kind,Th.St.hd,ht]
 |true=>
  have e:=h.end_ rfl;have h1:=(h.zct.last n t ht).2 e;simp[zby,Th.St.kind];omega
theorem RI.fail{w w':World}{r tb cap:Nat}{T:List Th.Tok}{n:Nat}{p:Nat}(h:RI w r tb cap T n false p){t:Th.Tok}(ht:T[n]?=some t)(hb:Blk w' r [.slice (some ⟨tb,0,none⟩) T.length cap,.int .i64 (T.length-1:Nat),.bool true,.int .i64 t.at_] 132)(hg:w.grownBy w' (some r)):RS w' r tb T (zby T n false p).fail:=by
 have hl:=h.lt;refine ⟨cap,T.length-1,true,t.at_,⟨hb,h.zdN.gb hg (by simp;exact h.ne),h.ne,by omega,h.zct,fun _=>by omega,h.cap_⟩,?_⟩;simp[zby,Th.St.fail,Th.St.hd,ht]
theorem RI.failed(h:RI w r tb cap T n true p)(hb:Blk w' r [.slice (some ⟨tb,0,none⟩) T.length cap,.int .i64 (T.length-1:Nat),.bool true,.int .i64 p] 132)(hg:w.grownBy w' (some r)):RS w' r tb T (zby T n true p).fail:=by
 have hl:=h.lt;refine ⟨cap,T.length-1,true,p,⟨hb,h.zdN.gb hg (by simp;exact h.ne),h.ne,by omega,h.zct,fun _=>by omega,h.cap_⟩,?_⟩;simp[zby,Th.St.fail]
theorem RI.adv{w w':World}{r tb cap:Nat}{T:List Th.Tok}{n:Nat}{f:Bool}{p:Nat}(h:RI w r tb cap T n f p){t:Th.Tok}(ht:T[n]?=some t)(hk:2<=t.k)(hb:Blk w' r [.slice (some ⟨tb,0,none⟩) T.length cap,.int .i64 (n+1:Nat),.bool f,.int .i64 p] 132)(hg:w.grownBy w' (some r)):RS w' r tb T (zby T n f p).adv:=by
 have hl:=h.lt;have h1:=h.zct.last n t ht;have h2:¬ (n+1=T.length):=fun e=>by have:=h1.2 e;omega
 cases f with
 |true=>exact absurd (h.end_ rfl) h2
 |false=>
  refine ⟨cap,n+1,false,p,⟨hb,h.zdN.gb hg (by simp;exact h.ne),h.ne,by omega,h.zct,(fun e=>by cases e),h.cap_⟩,?_⟩;simp[zby,Th.St.adv]
theorem zbV(h:RS w r tb T st)(x:ByteArray)(hx:x.data.toList≠[]):
  Calls prog 248 #[.pointer (some ⟨r,0,none⟩),.string x] w fun e w'=>e=.returned (.bool (st.is x.data.toList))/\Below w.heap.size w w':=by
 obtain ⟨cap,n,f,p,h,rfl⟩:=h;obtain ⟨t,ht⟩:=h.tok;have H:Hid (_=_):=zab (zst h ht x.data.toList hx);go_enter func248,ntmps248
 go_wp2_with fail
 refine (zdm h ht).mono ?_;rintro e w1 ⟨rfl,hb⟩;clear h ht hx;go_wp2_with fail
 go_ret
 refine ⟨?_,hb⟩;rw[H.o,<-ByteArray.toList_eq];rfl
theorem zfv(h:RS w r tb T st):
  Calls prog 191 #[.pointer (some ⟨r,0,none⟩)] w fun e w'=>e=.returned (.tuple #[])/\RS w' r tb T st.fail/\w.grownBy w' (some r):=by
 obtain ⟨cap,n,f,p,h,rfl⟩:=h;obtain ⟨t,ht⟩:=h.tok;have hl:=h.lt;have hg:=h.zct.len;have H:=zab h;cases f with
 |true=>
  have B:=h.blk;have c0:=B.cell 0;have c1:=B.cell 1;have c2:=B.cell 2;have c3:=B.cell 3;have f1:=B.frozen 1;have BB:=zab B;simp at c0 c1 c2 c3;clear h ht B;go_enter func191,ntmps191
  go_wp2_with fail
  go_end0
  rw[show ((T.length:Int)-1)=((T.length-1:Nat):Int) by omega];have B2:=BB.o.set 1 (.int .i64 ((T.length-1:Nat):Int));exact ⟨rfl,H.o.failed B2 (zaT _ _ _ _),zaT _ _ _ _⟩
 |false=>
  have B:=h.blk;have c0:=B.cell 0;have c1:=B.cell 1;have c2:=B.cell 2;have c3:=B.cell 3;have f2:=B.frozen 2;have hb:=zab B;have Ht:=zab ht;simp at c0 c1 c2 c3;clear h ht B;go_enter func191,ntmps191
  go_wp2_with fail
  have B1:=hb.o.set 2 (.bool true);refine (zoL (cap:=cap) (by simpa using B1.cell 0) (by simpa using B1.cell 1) (H.o.zdN.gb (zaT _ _ _ _) (by simp;exact H.o.ne)) hl hg Ht.o).mono ?_;rintro e w1 ⟨rfl,hw⟩;have B2:=B1.below hw B1.lt;clear c0 c1 c2 c3 f2;have c0:=B2.cell 0;have c1:=B2.cell 1;have c2:=B2.cell 2;have c3:=B2.cell 3;have f3:=B2.frozen 3;have f1:=B2.frozen 1;simp at c0 c1 c2 c3;have jh:=zab B2;clear B1 B2;go_wp2_with fail
  go_end0
  rw[show ((T.length:Int)-1)=((T.length-1:Nat):Int) by omega];have B3:=(jh.o.set 3 (.int .i64 (t.at_:Int))).set 1 (.int .i64 ((T.length-1:Nat):Int));have hG:=zad (zad (zad (zaT w r 2 (.bool true)) (zaf (some r) hw)) (zaT _ _ 3 (.int .i64 (t.at_:Int)))) (zaT _ _ 1 (.int .i64 ((T.length-1:Nat):Int)));exact ⟨rfl,H.o.fail Ht.o B3 hG,hG⟩
theorem zlb(h:RI w r tb cap T n f p)(ht:T[n]?=some t)(x:List UInt8)(hx:x≠[])(hi:(zby T n f p).is x=true):2<=t.k:=by
 rw[zst h ht x hx]at hi;rcases zAw t.k 2 with hk|hk
 ·have:=(h.zct.text t (zy1 ht)).1 (by omega);rw[this]at hi;simp at hi;exact absurd hi hx
 ·exact hk
theorem RI.step{w1:World}(h:RI w r tb cap T n f p)(ht:T[n]?=some t)(hk:2<=t.k)(hw:Below w.heap.size w w1):RS (w1.setCell ⟨r,1,none⟩ (.int .i64 ((n:Int)+1))) r tb T (zby T n f p).adv/\w.grownBy (w1.setCell ⟨r,1,none⟩ (.int .i64 ((n:Int)+1))) (some r):=by
 have hG:=zad (zaf (some r) hw) (zaT w1 r 1 (.int .i64 ((n:Int)+1)));exact ⟨h.adv ht hk (by have:=(h.blk.below hw h.blk.lt).set 1 (.int .i64 ((n:Int)+1));simpa using this) hG,hG⟩
theorem zbG(h:RS w r tb T st)(x:ByteArray)(hx:x.data.toList≠[]):
  Calls prog 192 #[.pointer (some ⟨r,0,none⟩),.string x] w fun e w'=>e=.returned (.bool (st.is x.data.toList))/\RS w' r tb T (if st.is x.data.toList then st.adv else st)/\w.grownBy w' (some r):=by
 have H:=zab h;cases hi:st.is x.data.toList
 ·have Hi:=zab hi;clear hi;go_enter func192,ntmps192
  go_wp2_with fail
  refine (zbV h x hx).mono ?_;rintro e w1 ⟨rfl,hb⟩;rw[Hi.o];clear h hx;go_wp2_with fail
  go_ret
  exact ⟨rfl,H.o.below hb,zaf _ hb⟩
 ·have Hi:=zab hi;have h0:=h;obtain ⟨cap,n,f,p,bJ,rfl⟩:=h0;obtain ⟨t,ht⟩:=bJ.tok;have hk:=zab (zlb bJ ht _ hx hi);have hn:=bJ.lt;have hg:=bJ.zct.len;have HR:=zab bJ;have Ht:=zab ht;clear hi bJ ht;go_enter func192,ntmps192
  go_wp2_with fail
  refine (zbV h x hx).mono ?_;rintro e w1 ⟨rfl,hb⟩;rw[Hi.o];have B:=HR.o.blk.below hb HR.o.blk.lt;have c1:=B.cell 1;have f1:=B.frozen 1;simp at c1;have hS:=zab (HR.o.step Ht.o hk.o hb);clear h hx B;go_wp2_with fail
  go_ret
  exact ⟨rfl,hS.o.1,hS.o.2⟩
theorem zaX(h:RS w r tb T st)(x:ByteArray)(hx:x.data.toList≠[]):
  Calls prog 117 #[.pointer (some ⟨r,0,none⟩),.string x] w fun e w'=>e=.returned (.tuple #[])/\RS w' r tb T (Th.want x.data.toList st)/\w.grownBy w' (some r):=by
 have H:=zab h;cases hi:st.is x.data.toList
 ·have Hi:=zab hi;have Hw:Hid (Th.want x.data.toList st=st.fail):=zab (by simp[Th.want,hi]);clear hi;go_enter func117,ntmps117
  go_wp2_with fail
  refine (zbG h x hx).mono ?_;rintro e w1 ⟨rfl,hs,hg⟩;rw[Hi.o]at hs ⊢;have Hs:Hid (RS w1 r tb T st):=zab (by simpa using hs);have Hg:=zab hg;clear h hx hs hg;go_wp2_with fail
  refine (zfv Hs.o).mono ?_;rintro e w2 ⟨rfl,aI,aF⟩;have eS:=zab aI;have ix:=zab aF;clear aI aF;go_wp2_with fail
  go_end0
  exact ⟨rfl,by rw[Hw.o];exact eS.o,zad Hg.o ix.o⟩
 ·have Hi:=zab hi;have Hw:Hid (Th.want x.data.toList st=st.adv):=zab (by simp[Th.want,hi]);clear hi;go_enter func117,ntmps117
  go_wp2_with fail
  refine (zbG h x hx).mono ?_;rintro e w1 ⟨rfl,hs,hg⟩;rw[Hi.o]at hs ⊢;have Hs:Hid (RS w1 r tb T st.adv):=zab (by simpa using hs);have Hg:=zab hg;clear h hx hs hg;go_wp2_with fail
  go_end0
  exact ⟨rfl,by rw[Hw.o];exact Hs.o,Hg.o⟩
theorem zg4(h:RS w r tb T st):
  Calls prog 115 #[.pointer (some ⟨r,0,none⟩)] w fun e w'=>e=.returned (.agg #[.string ⟨(Th.zaL st).1.s.toArray⟩,.int .i64 (Th.zaL st).1.at_])/\RS w' r tb T (Th.zaL st).2/\w.grownBy w' (some r):=by
 have bd:=h.lt;have cu:=h.tlt;obtain ⟨cap,n,f,p,bJ,rfl⟩:=h;obtain ⟨t,ht⟩:=bJ.tok;have hn:=bJ.lt;have hg:=bJ.zct.len;have HR:=zab bJ;have Ht:=zab ht;have iI:=zl3 bJ ht 2 (by omega);have h0:=bJ.below (zam w (.cells #[.string ⟨#[]⟩,.int .i64 0] 88));cases hk:(t.k == 2)
 ·have e:Th.zaL (zby T n f p)=(Th.znj,(zby T n f p).fail):=by rw[Th.zaL,iI,hk];rfl
  rw[e];have fy:((t.k:Int) == 2)=false:=by simp at hk ⊢;omega
  clear bJ iI e hk;go_enter func115,ntmps115
  go_wp2_with fail
  refine (zdm h0 ht).mono ?_;rintro e w1 ⟨rfl,hb⟩;have h1:=zab (h0.below hb);clear h0 ht;have B:=(Blk.new w [.string ⟨#[]⟩,.int .i64 0] 88).below hb (by simp);have q0:=B.cell 0;have q1:=B.cell 1;have g0:=B.frozen 0;have g1:=B.frozen 1;have HB:=zab B;have dd:=B.lt;simp at q0 q1;clear B;go_wp2_with fail
  have h2:RS _ r tb T (zby T n f p):=⟨cap,n,f,p,h1.o.below (zam w1 (.cells #[.int .i64 t.k,.string ⟨t.s.toArray⟩,.int .i64 t.at_] 135)),rfl⟩;refine (zfv h2).mono ?_;rintro e w2 ⟨rfl,hs,aF⟩;clear h2;have B2:=(HB.o.alloc (.cells #[.int .i64 t.k,.string ⟨t.s.toArray⟩,.int .i64 t.at_] 135)).grown aF (by simp;omega);clear q0 q1 g0 g1;have q0:=B2.cell 0;have q1:=B2.cell 1;have g0:=B2.frozen 0;have g1:=B2.frozen 1;simp at q0 q1;have Hs:=zab hs;have HG:=zab (zad (zad (zad (zag w _ (some r)) (zaf (some r) hb)) (zag w1 _ (some r))) aF);have gA:=zab B2;clear hs aF B2 hb dd;go_wp2_with fail
  have B3:=(gA.o.set 0 (.string ⟨#[]⟩)).set 1 (.int .i64 0);have p0:=B3.cell 0;have p1:=B3.cell 1;simp at p0 p1;refine bodyPost_ret (v:=.agg #[.string ⟨#[]⟩,.int .i64 0]) (by simp[results,Tryz.results115,go_sem,p0,p1]) rfl ⟨rfl,?_,?_⟩
  ·exact (Hs.o.set _ _ _ (by omega) (by omega)).set _ _ _ (by omega) (by omega)
  ·exact zap (zap HG.o _ _ (zyN _)) _ _ (zyN _)
 ·have e:Th.zaL (zby T n f p)=(t,(zby T n f p).adv):=by
   rw[Th.zaL,iI,hk];cases f with
   |false=>simp[zby,Th.St.hd,ht]
   |true=>
    have e1:=(bJ.zct.last n t ht).2 (bJ.end_ rfl);simp at hk;omega
  rw[e];have aG:2<=t.k:=by simp at hk;omega
  have fy:((t.k:Int) == 2)=true:=by simp at hk ⊢;omega
  clear bJ iI e hk;go_enter func115,ntmps115
  go_wp2_with fail
  refine (zdm h0 ht).mono ?_;rintro e w1 ⟨rfl,hb⟩;have e8:=h0.below hb;have hS:=zab (HR.o.step Ht.o aG (w1:=w1) (((zam w _).trans (hb.mono (by simp)))));have c1:=e8.blk.cell 1;have f1:=e8.blk.frozen 1;simp at c1;clear h0 ht e8;have B:=(Blk.new w [.string ⟨#[]⟩,.int .i64 0] 88).below hb (by simp);have q0:=B.cell 0;have q1:=B.cell 1;have g0:=B.frozen 0;have g1:=B.frozen 1;have HB:=zab B;have dd:=B.lt;have cg:r<w1.heap.size:=by omega
  simp at q0 q1;clear B;go_wp2_with fail
  have B3:=(((HB.o.other ⟨r,1,none⟩ (.int .i64 ((n:Int)+1)) (by simp;omega)).set 0 (.string ⟨t.s.toArray⟩)).set 1 (.int .i64 t.at_)).alloc (.cells #[.int .i64 t.k,.string ⟨t.s.toArray⟩,.int .i64 t.at_] 135);have p0:=B3.cell 0;have p1:=B3.cell 1;simp at p0 p1;refine bodyPost_ret (v:=.agg #[.string ⟨t.s.toArray⟩,.int .i64 t.at_]) (by simp[results,Tryz.results115,go_sem,p0,p1]) rfl ⟨rfl,?_,?_⟩
  ·exact ((hS.o.1.set _ _ _ (by omega) (by omega)).set _ _ _ (by omega) (by omega)).alloc _
  ·exact zad (zap (zap hS.o.2 _ _ (zyN _)) _ _ (zyN _)) (zag _ _ _)
theorem zhs(h:RS w r tb T st):
  ∃ t:Th.Tok,(∀ k,2<=k->st.kind k=(t.k == k))/\(∀ x,x≠[]->st.is x=(t.s == x))/\(st.bad=none->st.hd=t)/\t∈T /\
   Calls prog 67 #[.pointer (some ⟨r,0,none⟩)] w fun e w'=>e=.returned (.agg #[.int .i64 t.k,.string ⟨t.s.toArray⟩,.int .i64 t.at_])/\Below w.heap.size w w':=by
 obtain ⟨cap,n,f,p,h,rfl⟩:=h;obtain ⟨t,ht⟩:=h.tok;refine ⟨t,fun k hk=>zl3 h ht k hk,fun x hx=>zst h ht x hx,?_,zy1 ht,zdm h ht⟩;intro hb;cases f with
 |true=>simp[zby]at hb
 |false=>simp[zby,Th.St.hd,ht]
def zbP (t:Th.Tok):List Value:=[.string ⟨t.s.toArray⟩,.int .i64 t.at_]
def zaj (l:List Th.Tok):List Value:=l.flatMap zbP
theorem zjt(l:List Th.Tok)(t:Th.Tok):zaj (l++[t])=zaj l++zbP t:=by simp[zaj]
theorem zrM(h:st.kind 2=true):Th.zax st=(st.hd::(Th.zax st.adv).1,(Th.zax st.adv).2):=by
 obtain ⟨rest,bad⟩:=st;cases bad with
 |some p=>simp[Th.St.kind]at h
 |none=>
  cases rest with
  |nil=>simp[Th.St.kind,Th.St.hd,Th.znj]at h
  |cons t r=>
   simp[Th.St.kind,Th.St.hd]at h;simp[Th.zax,Th.St.hd,Th.St.adv,h]
theorem ztR(h:st.kind 2=false):Th.zax st=([],st):=by
 obtain ⟨rest,bad⟩:=st;cases bad with
 |some p=>rfl
 |none=>
  cases rest with
  |nil=>rfl
  |cons t r=>
   simp[Th.St.kind,Th.St.hd]at h;simp[Th.zax,h]
variable {k:Nat}
theorem zvK(h:st.kind k=true):st.bad=none:=by
 obtain ⟨rest,bad⟩:=st;cases bad with
 |some p=>simp[Th.St.kind]at h
 |none=>rfl
theorem zfw(hk:2<=k)(h:st.kind k=true):st.adv.rest.length<st.rest.length:=by
 obtain ⟨rest,bad⟩:=st;cases rest with
 |nil=>simp[Th.St.kind,Th.St.hd,Th.znj]at h;omega
 |cons t r=>simp[Th.St.adv]
theorem zqz:(prog.info? 88).map (fun i=>(i.zero,i.size,i.bytes))=some (some (.agg #[.string ⟨#[]⟩,.int .i64 0]),2,24):=by kernel_rfl
theorem ztW(h:RS w r tb T st):st.rest.length<=100000:=by
 obtain ⟨cap,n,f,p,h,rfl⟩:=h;have:=h.zct.len;cases f <;> simp[zby]
 omega
theorem zfy(v:Value):v.ownBlock=none\/v.ownBlock≠none:=by
 cases v.ownBlock with
 |none=>exact .inl rfl
 |some k=>exact .inr (by simp)
variable {base size:Nat}{v:Value}{xs:List Value}
theorem zdi{e:TypeId}(h:w.ownsRow base e size v n xs)(hr:r<base):v.ownBlock=none\/v.ownBlock≠some r:=by
 cases hv:v.ownBlock with
 |none=>exact .inl rfl
 |some k=>exact .inr (by have:=(h.lt k hv).1;simp;omega)
theorem zpG{e:TypeId}(h:w.ownsRow base e size v n xs)(hr:r<base):some r≠v.ownBlock:=by
 intro e;have:=(h.lt r e.symm).1;omega
theorem zjh{a b c:World}{r:Option Nat}{e:TypeId}(h:a.grownBy b r)(ho:b.ownsRow a.heap.size e size v n xs)(hg:b.grownBy c v.ownBlock):a.grownBy c r:=
 ⟨hg.os.trans h.os,hg.tape.trans h.tape,hg.output.trans h.output,zyR h.size hg.size,
  fun k hk hr=>(hg.block k (zyS hk h.size) (zpG ho hk)).trans (h.block k hk hr)⟩
theorem zlH(h:RS w r tb T st):
  Calls prog 116 #[.pointer (some ⟨r,0,none⟩)] w fun e w'=>∃ v,e=.returned v/\((Th.zax st).1=[]->v=.slice none 0 0)/\w'.ownsRow w.heap.size 88 2 v (Th.zax st).1.length (zaj (Th.zax st).1) /\
   RS w' r tb T (Th.zax st).2/\w.grownBy w' (some r):=by
 have bd:=h.lt;have cu:=h.tlt;have aH:=h.ne;have hlen:=ztW h;obtain ⟨i0,hi,bq,aP,bF⟩:=info_parts zqz;have HI:=zab hi;clear hi;have HZ:=zab (And.intro bq (And.intro aP bF));clear bq aP bF;have H:=zab h;clear h;go_enter func116,ntmps116
 go_wp2_with fail
 go_loopg [3] st.rest.length (fun k v wr=>∃ (l:List Th.Tok) (s1:Th.St),RS wr r tb T s1/\s1.rest.length<=k/\l.length+s1.rest.length<=100000/\wr.ownsRow w.heap.size 88 2 v l.length (zaj l)/\w.grownBy wr (some r)/\(l=[]->v=.slice none 0 0)/\Th.zax st=(l++(Th.zax s1).1,(Th.zax s1).2))
 case atStart=>exact ⟨[],st,H.o,zyN _,by simpa using hlen,World.ownsRow_nil _ _ _ _,zcT _ _,fun _=>rfl,by simp⟩
 case round=>
  obtain ⟨l,s1,hs,hk,hl,ai,hg,ck,he⟩:=hrel;have vZ:=zab ck;clear ck;obtain ⟨t,tk,ti,th,tm,tc⟩:=zhs hs;have Hs:=zab hs;have He:=zab he;have Hg:=zab hg;have Ho:=zab ai;cases hv:s1.kind 2
  ·have fy:((t.k:Int) == 2)=false:=by rw[tk 2 (by omega)]at hv;simp at hv ⊢;omega
   have Hv:=zab hv;clear hs he hg ai tk ti th tm hv;go_wp2_with fail
   refine tc.mono ?_;rintro e w1 ⟨rfl,hb⟩;clear tc;have Hb:=zab hb;clear hb;go_wp2_with fail
   go_ret
   have e:=He.o;rw[ztR Hv.o]at e;rw[e];simp only[zzS];exact ⟨_,rfl,vZ.o,Ho.o.kept (zaf none Hb.o) (zfy _),Hs.o.below Hb.o,zad Hg.o (zaf _ Hb.o)⟩
  ·have fy:((t.k:Int) == 2)=true:=by rw[tk 2 (by omega)]at hv;simp at hv ⊢;omega
   have Hv:=zab hv;clear hs he hg ai tk ti th tm hv;go_wp2_with fail
   refine tc.mono ?_;rintro e w1 ⟨rfl,hb⟩;clear tc;have Hb:=zab hb;have aW:=Hs.o.below hb;clear hb;go_wp2_with fail
   refine (zg4 aW).mono ?_;rintro e w2 ⟨rfl,aI,aF⟩;have e2:Th.zaL s1=(s1.hd,s1.adv):=by simp[Th.zaL,Hv.o]
   rw[e2]at aI ⊢;have Df:Hid (Th.zax st=((l++[s1.hd])++(Th.zax s1.adv).1,(Th.zax s1.adv).2)):=zab (by rw[He.o,zrM Hv.o];simp);have aC:=zfw (by omega) Hv.o;have bB:=(Ho.o.kept (zaf none Hb.o) (zfy _)).kept aF (zdi Ho.o bd);have aS:=zad (zad Hg.o (zaf _ Hb.o)) aF;have cT:=aS.size;have eS:=zab aI;have ej:=zab aS;clear aW aI aF e2 aS;generalize s1.hd=x at *;generalize s1.adv=s2 at *;have eL:=bB.alloc (.cells #[.string ⟨x.s.toArray⟩,.int .i64 x.at_] 88);go_wp2_with (at_builtin;go_loud (refine wpList_append_own _ rfl _ _ 89 rfl w.heap.size 88 i0 _ 2 24 underlying89 HI.o HZ.o.1 HZ.o.2.1 HZ.o.2.2 rfl (by decide) _ _ _ rfl eL ⟨w2.heap.size,0,none⟩ 1 1 (zbP x) rfl rfl (cell_two_new _ _ _ _) (by simp[Value.oneCell',zbP]) (by unfold maxLen;omega) (by omega) (by simp;omega) ?_);intro v' w3 dR ah _)
   go_roundg s2.rest.length
   case measure=>omega
   case rel=>
    refine ⟨l++[x],s2,(eS.o.alloc _).gb ah (zpG eL bd) (zpG eL cu),zyN _,by simp;omega,?_,zjh (zad ej.o (zag _ _ _)) eL ah,fun e=>by simp at e,Df.o⟩;rw[zjt,zyT];exact dR
theorem zn3(h:RS w r tb T st):
  Calls prog 116 #[.pointer (some ⟨r,0,none⟩)] w fun e w'=>∃ v,e=.returned v/\w'.ownsRow w.heap.size 88 2 v (Th.zax st).1.length (zaj (Th.zax st).1) /\
   RS w' r tb T (Th.zax st).2/\w.grownBy w' (some r):=
 (zlH h).mono fun _ _ ⟨v,h1,_,h3⟩=>⟨v,h1,h3⟩
theorem zf3:∀ (l:List UInt8) (acc:Nat),(∀ c∈l,Th.zba c=true)->Lib.decFrom acc l=some (l.foldl (fun a c=>10*a+(c.toNat-48)) acc)
 |[],acc,_=>rfl
 |c::l,acc,h=>by
  have hc:=h c (by simp);simp only[Th.zba,zzv,decide_eq_true_eq]at hc;have ih:=zf3 l (10*acc+(c.toNat-48)) (fun d hd=>h d (by simp[hd]));simp only[Lib.decFrom,Lib.digitVal];rw[if_pos hc];simp only[zz2];rw[show acc*10+(c.toNat-48)=10*acc+(c.toNat-48) by omega];exact ih
theorem zpd(l:List UInt8)(h0:l≠[])(h:∀ c∈l,Th.zba c=true):Lib.atoi l=some (Th.val l:Int):=by
 cases l with
 |nil=>exact absurd rfl h0
 |cons c r=>
  have hc:=h c (by simp);simp only[Th.zba,zzv,decide_eq_true_eq]at hc;have h1:(c == 45)=false:=by rw[<-Bool.not_eq_true];intro e;have:=eq_of_beq e;subst this;simp at hc
  have h2:(c == 43)=false:=by rw[<-Bool.not_eq_true];intro e;have:=eq_of_beq e;subst this;simp at hc
  simp only[Lib.atoi,h1,h2,zzw,if_false,Lib.decNat,List.isEmpty_cons];rw[zf3 _ _ h];rfl
theorem zuM:∀ (l:List UInt8) (acc:Nat),(∀ c∈l,Th.zba c=true)->l.foldl (fun a c=>10*a+(c.toNat-48)) acc<(acc+1)*10 ^ l.length
 |[],acc,_=>by simp
 |c::l,acc,h=>by
  have hc:=h c (by simp);simp only[Th.zba,zzv,decide_eq_true_eq]at hc;have ih:=zuM l (10*acc+(c.toNat-48)) (fun d hd=>h d (by simp[hd]));simp only[zz2,zy8];refine zyS ih ?_;rw[Nat.pow_succ,Nat.mul_comm (10 ^ l.length) 10,<-Nat.mul_assoc];exact Nat.mul_le_mul_right _ (by omega)
theorem zoS(l:List UInt8)(hl:l.length<=9)(h:∀ c∈l,Th.zba c=true):Th.val l<1000000000:=by
 have h1:=zuM l 0 h;have h2:10 ^ l.length<=10 ^ 9:=zz9 (by omega) hl;unfold Th.val;simp at h1 h2;omega
theorem zi3(w:World)(s:ByteArray):Below w.heap.size w (Lib.bytesWorld w 5 s):=by
 have h:=(zam w (.cells (Lib.bytesCells w 5 s) 5)).drew;refine ⟨rfl,rfl,rfl,?_,?_⟩
 ·have:=h.size;simp only[Lib.bytesWorld,World.freeze];split <;> simp
 ·intro k hk;rw[<-h.block k hk];simp only[Lib.bytesWorld,World.freeze];split
  ·rfl
  ·simp only[Array.getElem?_modify];rw[if_neg (by omega)];rfl
theorem zsB(l:List UInt8):(⟨l.toArray⟩:ByteArray).size=l.length:=by show l.toArray.size=_;simp
theorem zgr(h:RS w r tb T st)(lo hi:Nat)(_hlo:lo<=2147483647)(_hhi:hi<=2147483647):
  Calls prog 280 #[.pointer (some ⟨r,0,none⟩),.int .i64 lo,.int .i64 hi] w fun e w'=>e=.returned (.int .i64 (Th.zaB lo hi st).1)/\RS w' r tb T (Th.zaB lo hi st).2/\w.grownBy w' (some r):=by
 have bd:=h.lt;have cu:=h.tlt;have HH:=zab h;obtain ⟨cap,n,f,p,bJ,rfl⟩:=h;obtain ⟨t,ht⟩:=bJ.tok;have hn:=bJ.lt;have hg:=bJ.zct.len;have HR:=zab bJ;have Ht:=zab ht;have iI:=zl3 bJ ht 3 (by omega);cases hk:(t.k == 3)
 ·have e:Th.zaB lo hi (zby T n f p)=(0,(zby T n f p).fail):=by rw[Th.zaB,iI,hk];simp
  rw[e];have fy:((t.k:Int) == 3)=false:=by simp at hk ⊢;omega
  clear iI e hk;go_enter func280,ntmps280
  go_wp2_with fail
  refine (zdm bJ ht).mono ?_;rintro e w1 ⟨rfl,hb⟩;have aW:=zab ((HH.o.below hb).alloc (.cells #[.int .i64 t.k,.string ⟨t.s.toArray⟩,.int .i64 t.at_] 135));have Hb:=zab hb;clear bJ ht hb;go_wp2_with fail
  refine (zfv aW.o).mono ?_;rintro e w2 ⟨rfl,aI,aF⟩;have eS:=zab aI;have ix:=zab aF;clear aI aF;go_wp2_with fail
  go_ret
  exact ⟨rfl,eS.o,zad (zad (zaf _ Hb.o) (zag _ _ _)) ix.o⟩
 ·have kh:(zby T n f p).hd=t:=by
   cases f with
   |false=>simp[zby,Th.St.hd,ht]
   |true=>
    have e1:=(bJ.zct.last n t ht).2 (bJ.end_ rfl);simp at hk;omega
  have dG:t.k=3:=by simpa using hk
  have ye:=bJ.zct.text t (zy1 ht);have mh:=bJ.zct.num t (zy1 ht) dG;have aV:=zab (zpd t.s (ye.2.1 (by omega)) mh.2);have gW:=zoS t.s mh.1 mh.2;have fy:((t.k:Int) == 3)=true:=by simp at hk ⊢;omega
  have aG:2<=t.k:=by omega
  obtain ⟨m,hm⟩:∃ m,Th.val t.s=m:=⟨_,rfl⟩;rw[hm]at gW aV;have te:=zab mh.1;by_cases hin:lo<=m/\m<=hi
  ·obtain ⟨h1,h2⟩:=hin;have e:Th.zaB lo hi (zby T n f p)=(m,(zby T n f p).adv):=by rw[Th.zaB,iI,hk,kh,hm];simp[h1,h2]
   rw[e];clear iI e hk kh ye mh hm dG;go_enter func280,ntmps280
   go_wp2_with fail
   refine (zdm bJ ht).mono ?_;rintro e w1 ⟨rfl,hb⟩;have e8:=bJ.below hb;have Hb:=zab hb;clear bJ ht hb;go_wp2_with fail
   refine (Tryz.strconv_Atoi _ (m:Int) (by rw[zsB];have:=te.o;omega) (by simpa using aV.o) _).mono ?_;rintro e w2 ⟨rfl,ts,hw⟩;have aw:Below w.heap.size w w2:=by
    rw[hw];exact ((Hb.o.trans ((zam w1 _).mono Hb.o.size)).trans ((zi3 _ _).mono (by simp;have:=Hb.o.size;omega)))
   clear hw;have pd:=HR.o.below aw;have c1:=pd.blk.cell 1;have f1:=pd.blk.frozen 1;simp at c1;have hS:=zab (HR.o.step Ht.o aG aw);clear e8 pd aw;go_wp2_with fail
   go_ret
   exact ⟨rfl,hS.o.1,hS.o.2⟩
  ·have e:Th.zaB lo hi (zby T n f p)=(0,(zby T n f p).fail):=by
    rw[Th.zaB,iI,hk,kh,hm];rcases zAw m lo with h1|h1
    ·simp;omega
    ·simp;omega
   rw[e];clear iI e hk kh ye mh hm dG;go_enter func280,ntmps280
   go_wp2_with fail
   refine (zdm bJ ht).mono ?_;rintro e w1 ⟨rfl,hb⟩;have e8:=bJ.below hb;have Hb:=zab hb;clear bJ ht hb;go_wp2_with fail
   refine (Tryz.strconv_Atoi _ (m:Int) (by rw[zsB];have:=te.o;omega) (by simpa using aV.o) _).mono ?_;rintro e w2 ⟨rfl,ts,hw⟩;have aw:Below w.heap.size w w2:=by
    rw[hw];exact ((Hb.o.trans ((zam w1 _).mono Hb.o.size)).trans ((zi3 _ _).mono (by simp;have:=Hb.o.size;omega)))
   have aI:=zab (HH.o.below aw);have cO:=zab aw;clear hw aw e8;rcases zAw m lo with h1|h1
   ·clear hin;go_wp2_with fail
    refine (zfv aI.o).mono ?_;rintro e w3 ⟨rfl,bP,aS⟩;have fG:=zab bP;have ej:=zab aS;clear bP aS;go_wp2_with fail
    go_ret
    exact ⟨rfl,fG.o,zad (zaf _ cO.o) ej.o⟩
   ·have h2:hi<m:=by omega
    clear hin;go_wp2_with fail
    refine (zfv aI.o).mono ?_;rintro e w3 ⟨rfl,bP,aS⟩;have fG:=zab bP;have ej:=zab aS;clear bP aS;go_wp2_with fail
    go_ret
    exact ⟨rfl,fG.o,zad (zaf _ cO.o) ej.o⟩
theorem zuF(h:RS w r tb T st):
  Calls prog 272 #[.pointer (some ⟨r,0,none⟩)] w fun e w'=>e=.returned (.int .i64 (Th.zaB 1 99 st).1)/\RS w' r tb T (Th.zaB 1 99 st).2/\w.grownBy w' (some r):=by
 go_enter func272,ntmps272
 go_wp2_with fail
 refine (zgr h 1 99 (by omega) (by omega)).mono ?_;rintro e w1 ⟨rfl,hs,hg⟩;have Hs:=zab hs;have Hg:=zab hg;clear h hs hg;go_wp2_with fail
 go_ret
 exact ⟨rfl,Hs.o,Hg.o⟩
theorem zeI(h:RS w r tb T st):
  Calls prog 286 #[.pointer (some ⟨r,0,none⟩)] w fun e w'=>e=.returned (.bool (Th.zcI st))/\Below w.heap.size w w':=by
 obtain ⟨t,tk,ti,th,tm,tc⟩:=zhs h;have H:=zab h;have aG:=tk 2 (by omega);have dG:=tk 3 (by omega);cases h2:st.kind 2
 ·have wJ:((t.k:Int) == 2)=false:=by rw[aG]at h2;simp at h2 ⊢;omega
  have HB:Hid (Th.zcI st=(st.kind 3||st.is [123]||st.is [40])):=zab (by simp[Th.zcI,h2]);clear h2;cases h3:st.kind 3
  ·have uA:((t.k:Int) == 3)=false:=by rw[dG]at h3;simp at h3 ⊢;omega
   have gA:Hid (Th.zcI st=(st.is [123]||st.is [40])):=zab (by rw[HB.o,h3];simp);clear h3 aG dG tk ti th tm HB;go_enter func286,ntmps286
   go_wp2_with fail
   refine tc.mono ?_;rintro e w1 ⟨rfl,hb⟩;have Hb:=zab hb;have aW:=h.below hb;clear tc h hb;go_wp2_with fail
   refine (zbV aW ⟨#[123]⟩ (by simp)).mono ?_;rintro e w2 ⟨rfl,hb⟩;have cO:=zab hb;have aI:=aW.below hb;clear hb;cases h4:st.is [123]
   ·have H4:=zab h4;clear h4 aW;go_wp2_with fail
    refine (zbV aI ⟨#[40]⟩ (by simp)).mono ?_;rintro e w3 ⟨rfl,hb⟩;have cG:=zab hb;clear hb aI;go_wp2_with fail
    go_ret
    refine ⟨?_,(Hb.o.trans (cO.o.mono Hb.o.size)).trans (cG.o.mono (zyR Hb.o.size cO.o.size))⟩;rw[gA.o,H4.o];rfl
   ·have H4:=zab h4;clear h4 aW aI;go_wp2_with fail
    go_ret
    refine ⟨?_,Hb.o.trans (cO.o.mono Hb.o.size)⟩;rw[gA.o,H4.o];rfl
  ·have uA:((t.k:Int) == 3)=true:=by rw[dG]at h3;simp at h3 ⊢;omega
   have gA:Hid (Th.zcI st=true):=zab (by rw[HB.o,h3];simp);clear h3 aG dG tk ti th tm HB;go_enter func286,ntmps286
   go_wp2_with fail
   refine tc.mono ?_;rintro e w1 ⟨rfl,hb⟩;have Hb:=zab hb;clear tc h hb;go_wp2_with fail
   go_ret
   exact ⟨by rw[gA.o];rfl,Hb.o⟩
 ·have wJ:((t.k:Int) == 2)=true:=by rw[aG]at h2;simp at h2 ⊢;omega
  have gA:Hid (Th.zcI st=true):=zab (by simp[Th.zcI,h2]);clear h2 aG dG tk ti th tm;go_enter func286,ntmps286
  go_wp2_with fail
  refine tc.mono ?_;rintro e w1 ⟨rfl,hb⟩;have Hb:=zab hb;clear tc h hb;go_wp2_with fail
  go_ret
  exact ⟨by rw[gA.o];rfl,Hb.o⟩
theorem zfX(h:RS w r tb T st)(c:Bool):
  Calls prog 251 #[.pointer (some ⟨r,0,none⟩),.bool c] w fun e w'=>e=.returned (.bool (Th.za8 c st))/\Below w.heap.size w w':=by
 cases h1:st.is [59]
 ·have e1:Th.za8 c st=false:=by simp[Th.za8,h1]
  rw[e1];have H1:=zab h1;clear h1 e1;go_enter func251,ntmps251
  go_wp2_with fail
  refine (zbV h ⟨#[59]⟩ (by simp)).mono ?_;rintro e w1 ⟨rfl,hb⟩;rw[show st.is (ByteArray.mk #[59]).data.toList=false from H1.o];have Hb:=zab hb;clear h hb;go_wp2_with fail
  go_ret
  exact ⟨rfl,Hb.o⟩
 ·have H1:=zab h1;cases c with
  |false=>
   have e1:Th.za8 false st=true:=by simp[Th.za8,h1]
   rw[e1];clear h1 e1;go_enter func251,ntmps251
   go_wp2_with fail
   refine (zbV h ⟨#[59]⟩ (by simp)).mono ?_;rintro e w1 ⟨rfl,hb⟩;rw[show st.is (ByteArray.mk #[59]).data.toList=true from H1.o];have Hb:=zab hb;clear h hb;go_wp2_with fail
   go_quiet (fail)
   go_wp2_with fail
   go_ret
   exact ⟨rfl,below_drewN Hb.o _⟩
  |true=>
   have h0:=h;obtain ⟨cap,n,f,p,bJ,rfl⟩:=h0;obtain ⟨t,ht⟩:=bJ.tok;have hk:=zlb bJ ht _ (by simp) h1;have hn:n+1<T.length:=by
    have:=bJ.zct.last n t ht;have:=bJ.lt;rcases zAw (n+1) T.length with h|h
    ·exact h
    ·have:t.k<=1:=(bJ.zct.last n t ht).2 (by omega);omega
   obtain ⟨t2,p9⟩:∃ t2,T[n+1]?=some t2:=⟨T[n+1]'hn,zyM hn⟩;have uJ:f=false:=by
    cases f with
    |false=>rfl
    |true=>have:=bJ.end_ rfl;omega
   subst uJ;have e1:Th.za8 true (zby T n false p)=(t2.s == [60]):=by
    have e2:((zby T n false p).rest.tail.headD Th.znj)=t2:=by simp[zby,p9]
    rw[Th.za8,h1,e2];rfl
   rw[e1];have hg:=bJ.zct.len;have HR:=zab bJ;have Di:=zab p9;clear h1 e1 bJ ht p9 hk;go_enter func251,ntmps251
   go_wp2_with fail
   refine (zbV h ⟨#[59]⟩ (by simp)).mono ?_;rintro e w1 ⟨rfl,hb⟩;rw[show (zby T n false p).is (ByteArray.mk #[59]).data.toList=true from H1.o];have Hb:=zab hb;have e8:=HR.o.below hb;have c0:=e8.blk.cell 0;have c1:=e8.blk.cell 1;obtain ⟨-,d1,-⟩:=e8.zdN (n+1) t2 Di.o;simp at c0 c1;clear h hb e8;go_wp2_with fail
   go_quiet (fail)
   go_wp2_with fail
   go_ret
   exact ⟨rfl,below_drewN Hb.o _⟩
end Go.Proofs.YtgahgkddaljmkaaGreatDoor
namespace Go.Proofs.YtgahgkddaljmkaaGreatDoor
open Tryz
open Go.RowKit
def Row (S:Nat->Prop) (w:World) (e:TypeId) (size:Nat) (v:Value) (n:Nat) (xs:List Value):Prop:=
 w.ownsRow 0 e size v n xs/\∀ k,v.ownBlock=some k->S k
variable {S:Nat->Prop}{w w':World}{size n:Nat}{v:Value}{xs:List Value}{row:Option Nat}
theorem Row.gb{e:TypeId}(h:Row S w e size v n xs)(hg:w.grownBy w' row)(hr:∀ k,row=some k->¬ S k):Row S w' e size v n xs:=by
 refine ⟨h.1.kept hg ?_,h.2⟩;cases hv:v.ownBlock with
 |none=>exact .inl rfl
 |some k=>exact .inr fun e=>hr k e.symm (h.2 k hv)
variable {S':Nat->Prop}
theorem Row.mono{e:TypeId}(h:Row S w e size v n xs)(hs:∀ k,k<w.heap.size->S k->S' k):Row S' w e size v n xs:=
 ⟨h.1,fun k hk=>hs k (h.1.lt k hk).2 (h.2 k hk)⟩
variable {base:Nat}
theorem za0{b':Nat}{e:TypeId}(h:w.ownsRow base e size v n xs)(hb:b'<=base):w.ownsRow b' e size v n xs:=by
 obtain ⟨h1,h2⟩:=h;refine ⟨h1,?_⟩;rcases h2 with h2|⟨g,cap,cur,hv,hg,r⟩
 ·exact .inl h2
 ·exact .inr ⟨g,cap,cur,hv,by omega,r⟩
theorem Row.zaE{e:TypeId}(h:w.ownsRow base e size v n xs):Row (fun b=>base<=b) w e size v n xs:=
 ⟨za0 h (zy5 _),fun k hk=>(h.lt k hk).1⟩
def zaM:List Th.Tok->List Value->List Value
 |t::l,v::vs=>[.string ⟨t.s.toArray⟩,.int .i64 t.at_,v]++zaM l vs
 |_,_=>[]
def za7:List (Nat × List Th.Tok)->List Value->List Value->List Value
 |a::l,n::ns,v::vs=>[.int .i64 a.1,n,v]++za7 l ns vs
 |_,_,_=>[]
theorem zf1:∀ (l:List Th.Tok) (vs:List Value) (t:Th.Tok) (v:Value),l.length=vs.length->zaM (l++[t]) (vs++[v])=zaM l vs++[.string ⟨t.s.toArray⟩,.int .i64 t.at_,v]
 |[],[],_,_,_=>rfl
 |a::l,b::vs,t,v,h=>by
  simp only[zy7,zaM];rw[zf1 l vs t v (by simpa using h)];simp
 |[],_::_,_,_,h=>by simp at h
 |_::_,[],_,_,h=>by simp at h
theorem zgK:∀ (l:List (Nat × List Th.Tok)) (ns vs:List Value) (a:Nat × List Th.Tok) (n v:Value),l.length=ns.length->l.length=vs.length->za7 (l++[a]) (ns++[n]) (vs++[v])=za7 l ns vs++[.int .i64 a.1,n,v]
 |[],[],[],_,_,_,_,_=>rfl
 |x::l,y::ns,z::vs,a,n,v,h1,h2=>by
  simp only[zy7,za7];rw[zgK l ns vs a n v (by simpa using h1) (by simpa using h2)];simp
 |[],_::_,_,_,_,_,h,_=>by simp at h
 |[],[],_::_,_,_,_,_,h=>by simp at h
 |_::_,[],_,_,_,_,h,_=>by simp at h
 |_::_,_::_,[],_,_,_,_,h=>by simp at h
def Rep (S:Nat->Prop) (w:World):Nat->Value->Th.Ex->Prop
 |0,_,_=>False
 |n+1,v,e=>
  (e.kind=1/\v=.iface 217 (.agg #[.int .i64 e.n])) \/
  (e.kind=2/\v=.iface 215 (.agg #[.string ⟨e.tok.s.toArray⟩,.int .i64 e.tok.at_])) \/
  (e.kind=3/\v=.iface 219 (.agg #[.int .i64 e.tag,.int .i64 e.arity])) \/
  (e.kind=4/\∃ sv bv b,e.kids=[b]/\v=.iface 226 (.agg #[sv,bv])/\Row S w 88 2 sv e.names.length (zaj e.names)/\Rep S w n bv b) \/
  (e.kind=5/\∃ v1 v2 e1 e2,e.kids=[e1,e2]/\v=.iface 163 (.agg #[v1,v2])/\Rep S w n v1 e1/\Rep S w n v2 e2) \/
  (e.kind=6/\∃ v1 v2 e1 e2,e.kids=[e1,e2]/\v=.iface 166 (.agg #[.string ⟨e.tok.s.toArray⟩,v1,v2])/\Rep S w n v1 e1/\Rep S w n v2 e2) \/
  ((e.kind=7\/e.kind=8)/\∃ sv bv b parts pvs,e.kids=b::parts/\v=.iface 178 (.agg #[.bool (e.kind == 8),sv,bv])/\parts.length=e.names.length/\pvs.length=e.names.length /\
   Row S w 312 3 sv e.names.length (zaM e.names pvs)/\(∀ (i:Nat) (pv:Value) (p:Th.Ex),pvs[i]?=some pv->parts[i]?=some p->Rep S w n pv p)/\Rep S w n bv b) \/
  (e.kind=9/\∃ cv sv b ag nvs bvs,e.kids=b::ag/\v=.iface 173 (.agg #[cv,sv])/\ag.length=e.zao.length/\nvs.length=e.zao.length/\bvs.length=e.zao.length /\
   Row S w 240 3 sv e.zao.length (za7 e.zao nvs bvs)/\(∀ (i:Nat) (a:Nat × List Th.Tok) (nv:Value),e.zao[i]?=some a->nvs[i]?=some nv->Row S w 88 2 nv a.2.length (zaj a.2)) /\
   (∀ (i:Nat) (bv:Value) (p:Th.Ex),bvs[i]?=some bv->ag[i]?=some p->Rep S w n bv p)/\Rep S w n cv b)
theorem Rep.imp{S S':Nat->Prop}{w w':World}(af:∀ e size v n xs,Row S w e size v n xs->Row S' w' e size v n xs):∀ (n:Nat) (v:Value) (e:Th.Ex),Rep S w n v e->Rep S' w' n v e
 |0,_,_,h=>h.elim
 |n+1,v,e,h=>by
  have ih:=Rep.imp af n;rcases h with h|h|h|⟨hk,sv,bv,b,h1,h2,h3,h4⟩|⟨hk,v1,v2,e1,e2,h1,h2,h3,h4⟩|⟨hk,v1,v2,e1,e2,h1,h2,h3,h4⟩|⟨hk,sv,bv,b,parts,pvs,h1,h2,h3,h4,h5,h6,h7⟩|⟨hk,cv,sv,b,ag,nvs,bvs,h1,h2,h3,h4,h5,h6,h7,h8,h9⟩
  ·exact .inl h
  ·exact .inr (.inl h)
  ·exact .inr (.inr (.inl h))
  ·exact .inr (.inr (.inr (.inl ⟨hk,sv,bv,b,h1,h2,af _ _ _ _ _ h3,ih _ _ h4⟩)))
  ·exact .inr (.inr (.inr (.inr (.inl ⟨hk,v1,v2,e1,e2,h1,h2,ih _ _ h3,ih _ _ h4⟩))))
  ·exact .inr (.inr (.inr (.inr (.inr (.inl ⟨hk,v1,v2,e1,e2,h1,h2,ih _ _ h3,ih _ _ h4⟩)))))
  ·exact .inr (.inr (.inr (.inr (.inr (.inr (.inl ⟨hk,sv,bv,b,parts,pvs,h1,h2,h3,h4,af _ _ _ _ _ h5,fun i pv p a c=>ih _ _ (h6 i pv p a c),ih _ _ h7⟩))))))
  ·exact .inr (.inr (.inr (.inr (.inr (.inr (.inr ⟨hk,cv,sv,b,ag,nvs,bvs,h1,h2,h3,h4,h5,af _ _ _ _ _ h6,fun i a nv x y=>af _ _ _ _ _ (h7 i a nv x y),fun i bv p a c=>ih _ _ (h8 i bv p a c),ih _ _ h9⟩))))))
theorem Rep.succ{S:Nat->Prop}{w:World}:∀ (n:Nat) (v:Value) (e:Th.Ex),Rep S w n v e->Rep S w (n+1) v e
 |0,_,_,h=>h.elim
 |n+1,v,e,h=>by
  have ih:=Rep.succ (S:=S) (w:=w) n;rcases h with h|h|h|⟨hk,sv,bv,b,h1,h2,h3,h4⟩|⟨hk,v1,v2,e1,e2,h1,h2,h3,h4⟩|⟨hk,v1,v2,e1,e2,h1,h2,h3,h4⟩|⟨hk,sv,bv,b,parts,pvs,h1,h2,h3,h4,h5,h6,h7⟩|⟨hk,cv,sv,b,ag,nvs,bvs,h1,h2,h3,h4,h5,h6,h7,h8,h9⟩
  ·exact .inl h
  ·exact .inr (.inl h)
  ·exact .inr (.inr (.inl h))
  ·exact .inr (.inr (.inr (.inl ⟨hk,sv,bv,b,h1,h2,h3,ih _ _ h4⟩)))
  ·exact .inr (.inr (.inr (.inr (.inl ⟨hk,v1,v2,e1,e2,h1,h2,ih _ _ h3,ih _ _ h4⟩))))
  ·exact .inr (.inr (.inr (.inr (.inr (.inl ⟨hk,v1,v2,e1,e2,h1,h2,ih _ _ h3,ih _ _ h4⟩)))))
  ·exact .inr (.inr (.inr (.inr (.inr (.inr (.inl ⟨hk,sv,bv,b,parts,pvs,h1,h2,h3,h4,h5,fun i pv p a c=>ih _ _ (h6 i pv p a c),ih _ _ h7⟩))))))
  ·exact .inr (.inr (.inr (.inr (.inr (.inr (.inr ⟨hk,cv,sv,b,ag,nvs,bvs,h1,h2,h3,h4,h5,h6,h7,fun i bv p a c=>ih _ _ (h8 i bv p a c),ih _ _ h9⟩))))))
variable {m:Nat}{e:Th.Ex}
theorem Rep.le(h:Rep S w n v e)(hm:n<=m):Rep S w m v e:=by
 induction hm with
 |refl=>exact h
 |step _ ih=>exact Rep.succ _ _ _ ih
theorem Rep.gb{S:Nat->Prop}{w w':World}{n:Nat}{v:Value}{e:Th.Ex}(h:Rep S w n v e){row:Option Nat}(hg:w.grownBy w' row)(hr:∀ k,row=some k->¬ S k):Rep S w' n v e:=
 Rep.imp (fun _ _ _ _ _ hR=>hR.gb hg hr) n v e h
theorem Rep.mono{S S':Nat->Prop}{w:World}{n:Nat}{v:Value}{e:Th.Ex}(h:Rep S w n v e)(hs:∀ k,k<w.heap.size->S k->S' k):Rep S' w n v e:=
 Rep.imp (fun _ _ _ _ _ hR=>hR.mono hs) n v e h
structure One (v:Value):Prop where
 shape:v=.nilIface\/∃ t x,v=.iface t x
theorem One.cells{v:Value}(h:One v):v.cells=#[v]:=by
 rcases h.shape with rfl|⟨t,x,rfl⟩ <;> rfl
theorem One.one(h:One v):v.oneCell'=true:=by
 rcases h.shape with rfl|⟨t,x,rfl⟩ <;> rfl
theorem zxB:One .nilIface:=⟨.inl rfl⟩
theorem zb0(t:TypeId)(x:Value):One (.iface t x):=⟨.inr ⟨t,x,rfl⟩⟩
structure Got (S:Nat->Prop) (w:World) (v:Value) (e:Th.Ex) (st:Th.St):Prop where
 one:One v
 rep:st.bad=none->∃ n,Rep S w n v e
theorem Got.gb{S:Nat->Prop}{w w':World}{v:Value}{e:Th.Ex}{st:Th.St}(h:Got S w v e st){row:Option Nat}(hg:w.grownBy w' row)(hr:∀ k,row=some k->¬ S k):Got S w' v e st:=
 ⟨h.one,fun hb=>by obtain ⟨n,hn⟩:=h.rep hb;exact ⟨n,hn.gb hg hr⟩⟩
theorem Got.mono{S S':Nat->Prop}{w:World}{v:Value}{e:Th.Ex}{st:Th.St}(h:Got S w v e st)(hs:∀ k,k<w.heap.size->S k->S' k):Got S' w v e st:=
 ⟨h.one,fun hb=>by obtain ⟨n,hn⟩:=h.rep hb;exact ⟨n,hn.mono hs⟩⟩
theorem Got.st{S:Nat->Prop}{w:World}{v:Value}{e:Th.Ex}{st st':Th.St}(h:Got S w v e st)(hb:st'.bad=none->st.bad=none):Got S w v e st':=⟨h.one,fun h'=>h.rep (hb h')⟩
abbrev zat (w:World):Nat->Prop:=fun b=>w.heap.size<=b
end Go.Proofs.YtgahgkddaljmkaaGreatDoor
namespace Go.Proofs.YtgahgkddaljmkaaGreatDoor
open Tryz
namespace Cp
abbrev Nm:=List UInt8
def zaH (l gone:List Nm):List Nm:=l.filter fun x=>!gone.contains x
def union (l more:List Nm):List Nm:=l++zaH more l
def zas (f:Th.Ex->List Nm):List (Nat × List Th.Tok)->List Th.Ex->List Nm->List Nm
 |a::az,b::bs,l=>zas f az bs (union l (zaH (f b) (Th.texts a.2)))
 |_,_,l=>l
def zav (f:Th.Ex->List Nm):List Th.Ex->List Nm->List Nm
 |p::ps,l=>zav f ps (union l (f p))
 |[],l=>l
def free:Nat->Th.Ex->List Nm
 |0,_=>[]
 |n+1,e=>
  if e.kind=2 then [e.tok.s] else
  if e.kind=4 then (match e.kids with|[b]=>zaH (free n b) (Th.texts e.names)|_=>[]) else
  if e.kind=5\/e.kind=6 then (match e.kids with|[a,b]=>union (free n a) (free n b)|_=>[]) else
  if e.kind=7 then (match e.kids with|b::ps=>union (zav (free n) ps []) (zaH (free n b) (Th.texts e.names))|_=>[]) else
  if e.kind=8 then (match e.kids with|b::ps=>union (zaH (zav (free n) ps []) (Th.texts e.names)) (zaH (free n b) (Th.texts e.names))|_=>[]) else
  if e.kind=9 then (match e.kids with|s::bs=>union (free n s) (zas (free n) e.zao bs [])|_=>[]) else []
structure Bs where
 blocks:List (Nat × List Ins)
 zac:List Nm
 code:List Ins
def Bs.write (b:Bs) (i:Ins):Bs:={ b with code:=b.code++[i] }
def Bs.push (b:Bs) (i:Ins):Bs:={ b with code:=b.code++[i],zac:=b.zac++[[]] }
def Bs.drop (b:Bs) (c:Nat):Bs:={ b with zac:=b.zac.take (b.zac.length-c) }
def zcq (zac:List Nm) (x:Nm):Nat->Option Nat
 |0=>none
 |k+1=>if zac[k]?=some x then some k else zcq zac x k
def za9 (zac:List Nm) (x:Nm):Option Nat:=zcq zac x zac.length
def zai (zac:List Nm) (names:List Nm):List Nm:=names.filter fun x=>(za9 zac x).isSome
def Bs.use (fns:List Nm) (b:Bs) (x:Nm):Bs:=
 match za9 b.zac x with
 |some i=>b.push (.push i)
 |none=>b.push (.zcW (fns.idxOf x))
def Bs.zak (fns:List Nm) (b:Bs) (names:List Nm):Bs:=names.reverse.foldl (Bs.use fns) b
def Bs.zhD (b:Bs) (zac:List Nm) (wr:Bs->Bs):Bs × Nat:=
 let q:=wr ⟨b.blocks,zac,[]⟩
 ({ b with blocks:=q.blocks++[(zac.length,q.code)] },q.blocks.length)
def zal (wk:Th.Ex->Nat->Bs->Bs) (fr:Th.Ex->List Nm) (b:Bs) (e:Th.Ex):Bs × Nat × List Nm:=
 let names:=zai b.zac (fr e)
 let r:=if e.kind=4 then (match e.kids with|[d]=>b.zhD (names++Th.texts e.names).reverse (wk d 0)|_=>(b,0))
  else if e.kind=3 then b.zhD (List.replicate e.arity []) (fun q=>(q.write (.pack e.tag e.arity)).write .enter)
  else b.zhD names.reverse (wk e 0)
 (r.1,r.2,names)
def zaI (wk:Th.Ex->Nat->Bs->Bs) (fr:Th.Ex->List Nm) (fns:List Nm) (b:Bs) (e:Th.Ex):Bs:=
 if e.kind=2 then b.use fns e.tok.s else
 if e.kind=1 then b.push (.num e.n) else
 if e.kind=3/\e.arity=0 then b.push (.pack e.tag 0) else
 let c:=zal wk fr b e
 ((c.1.zak fns c.2.2).drop c.2.2.length).push (.close c.2.1 c.2.2.length)
def Bs.ends (b:Bs) (c:Nat) (last:Ins):Bs:=(b.write (.zci c)).write last
def spread:Nat->Th.Ex->Th.Ex × List Th.Ex
 |0,e=>(e,[])
 |n+1,e=>
  match e.kids with
  |[f,a]=>if f.kind=5 then ((spread n f).1,(spread n f).2++[a]) else (f,[a])
  |_=>(e,[])
def armsOf (wk:Th.Ex->Nat->Bs->Bs) (names:List Nm):List (Nat × List Th.Tok)->List Th.Ex->Bs->List (Nat × Nat × Nat)->Bs × List (Nat × Nat × Nat)
 |a::az,d::ds,b,l=>
  let r:=b.zhD (Th.texts a.2++names).reverse (wk d 0)
  armsOf wk names az ds r.1 (l++[(a.1,a.2.length,r.2)])
 |_,_,b,l=>(b,l)
def makeAll (wk:Th.Ex->Nat->Bs->Bs) (fr:Th.Ex->List Nm):List Th.Ex->Bs->List (List Nm)->Bs × List (List Nm)
 |p::ps,b,l=>
  let c:=zal wk fr b p
  makeAll wk fr ps (c.1.write (.hold c.2.1 c.2.2.length)) (l++[c.2.2])
 |[],b,l=>(b,l)
def zbf (fns:List Nm):Nat->List (List Nm)->Bs->Bs
 |i,names::l,b=>zbf fns (i+1) l (((b.zak fns names).drop names.length).write (.fill i names.length))
 |_,[],b=>b
def zkD (wk:Th.Ex->Nat->Bs->Bs) (fr:Th.Ex->List Nm) (fns:List Nm) (e:Th.Ex) (b:Bs):Bs:=
 match e.kids with
 |d::ps=>
  if e.kind=8 then
   let r:=makeAll wk fr ps { b with zac:=b.zac++Th.texts e.names } []
   wk d 0 (zbf fns b.zac.length r.2 r.1)
  else
   let b1:=ps.foldl (zaI wk fr fns) b
   wk d 0 { b1 with zac:=Go.splice b1.zac b.zac.length (Th.texts e.names) }
 |[]=>b
def work (fr:Th.Ex->List Nm) (fns:List Nm):Nat->Th.Ex->Nat->Bs->Bs
 |0,_,_,b=>b
 |n+1,e,below,b=>
  if e.kind=5 then
   let s:=spread (n+1) e
   let b1:=s.2.reverse.foldl (zaI (work fr fns n) fr fns) b
   work fr fns n s.1 (below+s.2.length+1) (b1.push (.zbF s.2.length))
  else if e.kind=6 then
   match e.kids with
   |[l,r]=>
    let names:=zai b.zac (fr r)
    let c:=b.zhD ([]::names).reverse fun q=>
     let d:=((q.write .zbX).push (.push (q.zac.length-1))).zhD [[],[]] fun z=>(z.write (.comp ⟨e.tok.s.toArray⟩)).write .enter
     work fr fns n r 2 (d.1.push (.wait d.2))
    work fr fns n l (below+names.length+1) ((c.1.zak fns names).push (.wait c.2))
   |_=>b
  else if e.kind=9 then
   match e.kids with
   |s::ds=>
    let names:=zai b.zac (zas fr e.zao ds [])
    let c:=b.zhD ([]::names).reverse fun q=>
     let a:=armsOf (work fr fns n) names e.zao ds q []
     a.1.write (.choose a.2)
    work fr fns n s (below+names.length+1) ((c.1.zak fns names).push (.wait c.2))
   |_=>b
  else if e.kind=7\/e.kind=8 then
   if below=0 then zkD (work fr fns n) fr fns e b
   else
    let names:=zai b.zac (fr e)
    let c:=(b.zak fns names).zhD names.reverse (zkD (work fr fns n) fr fns e)
    c.1.ends (below+names.length) (.jump c.2)
  else (zaI (work fr fns n) fr fns b e).ends (below+1) .enter
def lines (fr:Th.Ex->List Nm) (fns:List Nm) (n:Nat):Nat->List Th.zbr->List (Nat × List Ins)->List (Nat × List Ins)
 |i,f::l,bl=>
  let zac:=(Th.texts f.params).reverse
  let q:=work fr fns n f.e 0 ⟨bl,zac,[]⟩
  lines fr fns n (i+1) l (q.blocks.set i (zac.length,q.code))
 |_,[],bl=>bl
def program (n:Nat) (l:List Th.zbr):List (Nat × List Ins):=lines (free n) (l.map fun f=>f.name.s) n 0 l (List.replicate l.length (0,[]))
end Cp
end Go.Proofs.YtgahgkddaljmkaaGreatDoor
namespace Go.Proofs.YtgahgkddaljmkaaGreatDoor
open Tryz
open Go.RowKit
attribute [local go_sem] zcZ zc0 zc1
theorem zaC(x:List UInt8)(st:Th.St):(Th.want x st).bad=none->st.bad=none:=by
 intro h;unfold Th.want at h;split at h
 ·simpa [Th.St.adv] using h
 ·unfold Th.St.fail at h;split at h
  ·simp at h
  ·exact h
theorem zdX(lo hi:Nat)(st:Th.St):(Th.zaB lo hi st).2.bad=none->st.bad=none:=by
 intro h;unfold Th.zaB at h;split at h
 ·simpa [Th.St.adv] using h
 ·simp only at h;unfold Th.St.fail at h;split at h
  ·simp at h
  ·exact h
def Reads (w:World) (r tb:Nat) (T:List Th.Tok) (e:Th.Ex) (st':Th.St) (en:Ending) (w':World):Prop:=
 ∃ v,en=.returned v/\Got (zat w) w' v e st'/\RS w' r tb T st'/\w.grownBy w' (some r)
variable {w:World}{r tb:Nat}{T:List Th.Tok}{st:Th.St}
theorem ztB(h:RS w r tb T st):
  Calls prog 290 #[.pointer (some ⟨r,0,none⟩)] w fun en w'=>Reads w r tb T (Th.zdj st).1 (Th.zdj st).2 en w':=by
 have bd:=h.lt;have cu:=h.tlt;go_enter func290,ntmps290
 go_wp2_with fail
 refine (zuF h).mono ?_;rintro e w1 ⟨rfl,aW,bw⟩;generalize ha:Th.zaB 1 99 st=a at aW ⊢;have Ha:=zab ha;have gF:=zab (aW.alloc (.cells #[.int .i64 a.1,.int .i64 0] 219));have lW:=zab bw;have hz:=bw.size;have B0:=zab (Blk.new w1 [.int .i64 a.1,.int .i64 0] 219);clear h ha aW bw;go_wp2_with fail
 refine (zaX gF.o ⟨#[44]⟩ (by simp)).mono ?_;rintro e w2 ⟨rfl,aI,aF⟩;have B1:=zab (B0.o.grown aF (by simp;omega));have ix:=zab aF;clear aF;go_wp2_with fail
 refine (zgr aI 0 9 (by omega) (by omega)).mono ?_;rintro e w3 ⟨rfl,bP,aS⟩;clear aI;generalize hb:Th.zaB 0 9 _=b at bP ⊢;have B2:=B1.o.grown aS (by simp;omega);have c1:=B2.cell 1;have f1:=B2.frozen 1;simp at c1;have gA:=zab B2;have Hb:=zab hb;have ej:=zab aS;have fG:=zab (bP.set w1.heap.size 1 (.int .i64 b.1) (by omega) (by omega));clear bP aS hb B2;go_wp2_with fail
 refine (zaX fG.o ⟨#[125]⟩ (by simp)).mono ?_;rintro e w4 ⟨rfl,bV,bM⟩;have B3:=(gA.o.set 1 (.int .i64 b.1)).grown bM (by simp;omega);have d0:=B3.cell 0;have d1:=B3.cell 1;simp at d0 d1;have gh:=zab bV;have gN:=zab bM;clear bV bM B3 c1 f1;go_wp2_with fail
 go_ret
 have ea:Th.zdj st=(Th.zcU a.1 b.1,Th.want [125] b.2):=by
  unfold Th.zdj;simp only[Ha.o];rw[show Th.zaB 0 9 (Th.want [44] a.2)=b from Hb.o]
 rw[ea];have hG:w.grownBy w4 (some r):=zad (zap (zad (zad (zad lW.o (zag _ _ _)) ix.o) ej.o) _ _ hz) gN.o;exact ⟨_,rfl,⟨zb0 _ _,fun _=>⟨1,.inr (.inr (.inl ⟨rfl,rfl⟩))⟩⟩,gh.o,hG⟩
def zso (ex:Th.Rd):Prop:=∀ (c:Bool) (st:Th.St) (q:Th.Ex × Th.St) (w:World) (r tb:Nat) (T:List Th.Tok),ex c st=some q->RS w r tb T st ->
 Calls prog 118 #[.pointer (some ⟨r,0,none⟩),.bool c] w fun en w'=>Reads w r tb T q.1 q.2 en w'
theorem zie{x:List UInt8}(h:st.is x=true):st.bad=none:=by
 obtain ⟨rest,bad⟩:=st;cases bad with
 |some p=>simp[Th.St.is]at h
 |none=>rfl
theorem zur(h:r<w.heap.size):∀ k,some r=some k->¬ zat w k:=by
 intro k e;simp at e;subst e;simp only[zat];omega
variable {ex:Th.Rd}{q:Th.Ex × Th.St}
theorem zsA(hx:zso ex)(hq:Th.zeU ex st=some q)(h:RS w r tb T st):
  Calls prog 285 #[.pointer (some ⟨r,0,none⟩)] w fun en w'=>Reads w r tb T q.1 q.2 en w':=by
 have bd:=h.lt;have cu:=h.tlt;obtain ⟨t,tk,ti,th,tm,tc⟩:=zhs h;have aG:=tk 2 (by omega);have dG:=tk 3 (by omega);have HH:=zab h;have HQ:=zab hq;clear hq;cases h2:st.kind 2
 ·have wJ:((t.k:Int) == 2)=false:=by rw[aG]at h2;simp at h2 ⊢;omega
  have H2:=zab h2;clear h2 aG;cases h3:st.kind 3
  ·have uA:((t.k:Int) == 3)=false:=by rw[dG]at h3;simp at h3 ⊢;omega
   have H3:=zab h3;clear h3 dG;have e0:Hid (Th.zeU ex st=if st.is [123] then some (Th.zdj st.adv) else if st.is [40] then (ex false st.adv).bind fun r=>some (r.1,Th.want [41] r.2) else some (Th.ex0,st.fail)):=zab (by rw[Th.zeU,H2.o,H3.o];simp);clear tk ti th tm;go_enter func285,ntmps285
   go_wp2_with fail
   refine tc.mono ?_;rintro e w1 ⟨rfl,hb⟩;have gF:=zab (h.below hb);have Hb:=zab hb;clear tc h hb;go_wp2_with fail
   obtain ⟨t1,tQ,-,-,-,tP⟩:=zhs gF.o;have wM:((t1.k:Int) == 3)=false:=by have:=tQ 3 (by omega);rw[H3.o]at this;simp at this ⊢;omega
   clear tQ;refine tP.mono ?_;rintro e w2 ⟨rfl,aw⟩;have eS:=zab (gF.o.below aw);have cO:=zab (Hb.o.trans (aw.mono Hb.o.size));clear tP aw;go_wp2_with fail
   refine (zbG eS.o ⟨#[123]⟩ (by simp)).mono ?_;rintro e w3 ⟨rfl,bP,aS⟩;have ej:=zab (zad (zaf _ cO.o) aS);clear aS;cases h4:st.is [123]
   ·rw[show st.is (ByteArray.mk #[123]).data.toList=false from h4]at bP;have fG:Hid (RS w3 r tb T st):=zab (by simpa using bP);have H4:=zab h4;clear bP h4;go_wp2_with fail
    refine (zbG fG.o ⟨#[40]⟩ (by simp)).mono ?_;rintro e w4 ⟨rfl,bV,bM⟩;have gN:=zab (zad ej.o bM);clear bM;cases h5:st.is [40]
    ·rw[show st.is (ByteArray.mk #[40]).data.toList=false from h5]at bV;have gh:Hid (RS w4 r tb T st):=zab (by simpa using bV);have e1:=HQ.o;rw[e0.o,H4.o,h5]at e1;simp at e1;subst e1;clear bV h5;go_wp2_with fail
     refine (zfv gh.o).mono ?_;rintro e w5 ⟨rfl,fC,cH⟩;have oF:=zab fC;have vY:=zab (zad gN.o cH);clear fC cH;go_wp2_with fail
     go_ret
     refine ⟨_,rfl,⟨zxB,fun hb=>?_⟩,oF.o,vY.o⟩;unfold Th.St.fail at hb;split at hb <;> simp_all
    ·rw[show st.is (ByteArray.mk #[40]).data.toList=true from h5]at bV;have gh:Hid (RS w4 r tb T st.adv):=zab (by simpa using bV);have e1:=HQ.o;rw[e0.o,H4.o,h5]at e1;simp only[zzw,if_false,if_true,zyQ]at e1;obtain ⟨q1,cF,bC⟩:=e1;simp only[zyP]at bC;subst bC;have Dh:=zab cF;clear bV h5 cF;go_wp2_with fail
     refine (hx _ _ _ _ _ _ _ Dh.o gh.o).mono ?_;rintro en w5 ⟨v,rfl,aq,fC,cH⟩;have cj:=zab aq;have hc:=aq.one.cells;have vY:=zab (zad gN.o cH);clear aq cH;go_wp2_with fail
     refine (zaX fC ⟨#[41]⟩ (by simp)).mono ?_;rintro e w6 ⟨rfl,jL,fk⟩;have qL:=zab jL;have zh:=zab fk;clear fC jL fk;go_wp2_with fail
     go_ret
     have hz:=gN.o.size;refine ⟨v,rfl,?_,qL.o,zad vY.o zh.o⟩;refine Got.st ?_ (zaC [41] q1.2);exact (cj.o.mono (fun k _ hk=>zyR hz hk)).gb zh.o (zur bd)
   ·rw[show st.is (ByteArray.mk #[123]).data.toList=true from h4]at bP;have fG:Hid (RS w3 r tb T st.adv):=zab (by simpa using bP);have e1:=HQ.o;rw[e0.o,h4]at e1;simp only[if_true,zyP]at e1;subst e1;clear bP h4;go_wp2_with fail
    refine (ztB fG.o).mono ?_;rintro en w4 ⟨v,rfl,aq,bV,bM⟩;have cj:=zab aq;have hc:=aq.one.cells;have gh:=zab bV;have gN:=zab bM;clear aq bM bV;go_wp2_with fail
    go_ret
    exact ⟨v,rfl,cj.o.mono (fun k _ hk=>zyR ej.o.size hk),gh.o,zad ej.o gN.o⟩
  ·have uA:((t.k:Int) == 3)=true:=by rw[dG]at h3;simp at h3 ⊢;omega
   have H3:=zab h3;have jd:st.hd=t:=th (zvK h3);have sB:t.k=3:=by rw[dG]at h3;simpa using h3
   have mh:=h.zct.num t tm sB;have hv:=zoS t.s mh.1 mh.2;have ep:Hid (Th.zaB 0 2147483647 st=(Th.val st.hd.s,st.adv)):=zab (by rw[Th.zaB,h3,jd];simp;omega);have e1:Th.zeU ex st=some (Th.mkNum (Th.val st.hd.s),st.adv):=by rw[Th.zeU,H2.o,h3];simp
   have e2:=HQ.o;rw[e1]at e2;simp only[zyP]at e2;subst e2;clear h3 dG jd sB mh hv e1 tk ti th tm;go_enter func285,ntmps285
   go_wp2_with fail
   refine tc.mono ?_;rintro e w1 ⟨rfl,hb⟩;have gF:=zab (h.below hb);have Hb:=zab hb;clear tc h hb;go_wp2_with fail
   obtain ⟨t1,tQ,-,-,-,tP⟩:=zhs gF.o;have wM:((t1.k:Int) == 3)=true:=by have:=tQ 3 (by omega);rw[H3.o]at this;simp at this ⊢;omega
   clear tQ;refine tP.mono ?_;rintro e w2 ⟨rfl,aw⟩;have eS:=zab (gF.o.below aw);have cO:=zab (Hb.o.trans (aw.mono Hb.o.size));clear tP aw;go_wp2_with fail
   refine (zgr eS.o 0 2147483647 (by omega) (by omega)).mono ?_;rintro e w3 ⟨rfl,bP,aS⟩;rw[ep.o]at bP ⊢;have fG:=zab bP;have ej:=zab (zad (zaf _ cO.o) aS);clear bP aS;go_wp2_with fail
   go_ret
   exact ⟨_,rfl,⟨zb0 _ _,fun _=>⟨1,.inl ⟨rfl,rfl⟩⟩⟩,fG.o,ej.o⟩
 ·have wJ:((t.k:Int) == 2)=true:=by rw[aG]at h2;simp at h2 ⊢;omega
  have H2:=zab h2;have ep:Hid (Th.zaL st=(st.hd,st.adv)):=zab (by simp[Th.zaL,h2]);have e1:Th.zeU ex st=some (Th.zbW st.hd,st.adv):=by rw[Th.zeU,h2];simp
  have e2:=HQ.o;rw[e1]at e2;simp only[zyP]at e2;subst e2;clear h2 aG dG e1 tk ti th tm;go_enter func285,ntmps285
  go_wp2_with fail
  refine tc.mono ?_;rintro e w1 ⟨rfl,hb⟩;have gF:=zab (h.below hb);have Hb:=zab hb;clear tc h hb;go_wp2_with fail
  refine (zg4 gF.o).mono ?_;rintro e w3 ⟨rfl,bP,aS⟩;rw[ep.o]at bP ⊢;have fG:=zab bP;have ej:=zab (zad (zaf _ Hb.o) aS);clear bP aS;go_wp2_with fail
  go_ret
  exact ⟨_,rfl,⟨zb0 _ _,fun _=>⟨1,.inr (.inl ⟨rfl,rfl⟩)⟩⟩,fG.o,ej.o⟩
theorem zhF(h:Th.zcI st=true):st.bad=none:=by
 obtain ⟨rest,bad⟩:=st;cases bad with
 |some p=>simp[Th.zcI,Th.St.kind,Th.St.is]at h
 |none=>rfl
variable {S:Nat->Prop}{n m:Nat}
theorem zv3{v1 v2:Value}{e1 e2:Th.Ex}(h1:Rep S w n v1 e1)(h2:Rep S w m v2 e2):Rep S w (n+m+1) (.iface 163 (.agg #[v1,v2])) (Th.zch e1 e2):=
 .inr (.inr (.inr (.inr (.inl ⟨rfl,v1,v2,e1,e2,rfl,rfl,h1.le (by omega),h2.le (by omega)⟩))))
theorem ztV{v1 v2:Value}{e1 e2:Th.Ex}(t:Th.Tok)(h1:Rep S w n v1 e1)(h2:Rep S w m v2 e2):Rep S w (n+m+1) (.iface 166 (.agg #[.string ⟨t.s.toArray⟩,v1,v2])) (Th.ziR t e1 e2):=
 .inr (.inr (.inr (.inr (.inr (.inl ⟨rfl,v1,v2,e1,e2,rfl,rfl,h1.le (by omega),h2.le (by omega)⟩)))))
variable {k:Nat}
theorem zxd(hx:zso ex)(hq:Th.zhP ex k st=some q)(h:RS w r tb T st):
  Calls prog 281 #[.pointer (some ⟨r,0,none⟩)] w fun en w'=>Reads w r tb T q.1 q.2 en w':=by
 have bd:=h.lt;have cu:=h.tlt;unfold Th.zhP at hq;simp only[zyQ]at hq;obtain ⟨q1,cF,bC⟩:=hq;have HQ:=zab bC;clear bC;go_enter func281,ntmps281
 go_wp2_with fail
 refine (zsA hx cF h).mono ?_;rintro en w1 ⟨v,rfl,aq,aW,bw⟩;have cj:=zab aq;have gF:=zab aW;have lW:=zab bw;have hc:=aq.one.cells;clear aq aW bw h cF;go_wp2_with fail
 go_loopg [3] k (fun g v wr=>∃ e1 s1,Got (zat w) wr v e1 s1/\RS wr r tb T s1/\w.grownBy wr (some r)/\Th.zcV ex g e1 s1=some q)
 case atStart=>exact ⟨q1.1,q1.2,cj.o,gF.o,lW.o,HQ.o⟩
 case round=>
  obtain ⟨e1,s1,aq,hs,hg,hp⟩:=hrel;have xm:=aq.one.cells;have iz:=zab aq;have Hs:=zab hs;have Hg:=zab hg;clear aq hg hc;cases gk with
  |zero=>simp[Th.zcV]at hp
  |succ g=>
   rw[Th.zcV]at hp;cases hb:Th.zcI s1
   ·rw[hb]at hp;simp only[zzw,if_false,zyP]at hp;subst hp;have Hb:=zab hb;clear hb;go_wp2_with fail
    refine (zeI hs).mono ?_;rintro e w2 ⟨rfl,aw⟩;rw[Hb.o];have cO:=zab aw;clear hs aw;go_wp2_with fail
    go_ret
    exact ⟨u3,rfl,iz.o.gb (zaf none cO.o) (by simp),Hs.o.below cO.o,zad Hg.o (zaf _ cO.o)⟩
   ·rw[hb]at hp;simp only[if_true,zyQ]at hp;obtain ⟨q2,bC,fB⟩:=hp;have mE:=zab fB;have jR:=zab bC;have Hb:=zab hb;clear hb fB bC;go_wp2_with fail
    refine (zeI hs).mono ?_;rintro e w2 ⟨rfl,aw⟩;rw[Hb.o];have aI:=hs.below aw;have cO:=zab aw;clear hs aw;go_wp2_with fail
    refine (zsA hx jR.o aI).mono ?_;rintro en w3 ⟨v2,rfl,cr,bP,aS⟩;have jb:=cr.one;have nU:=iz.o.one;have fF:=zab cr;have fG:=zab bP;have ej:=zab aS;clear aI cr bP aS xm;rcases nU.shape with rfl|⟨t3,x3,rfl⟩ <;> rcases jb.shape with rfl|⟨t2,x2,rfl⟩
    all_goals
     clear jb nU;go_wp2_with fail
     go_roundg g
     case measure=>omega
     case rel=>
      have hz:=(zad Hg.o (zaf (some r) cO.o)).size;refine ⟨Th.zch e1 q2.1,q2.2,⟨zb0 _ _,fun aQ=>?_⟩,fG.o,zad (zad Hg.o (zaf _ cO.o)) ej.o,mE.o⟩;obtain ⟨n1,cR⟩:=((iz.o.gb (zaf none cO.o) (by simp)).gb ej.o (zur bd)).rep (zhF Hb.o);obtain ⟨n2,eY⟩:=(fF.o.mono (S':=zat w) (fun k _ hk=>zyR hz hk)).rep aQ;exact ⟨_,zv3 cR eY⟩
def zkx (f:Nat) (sub:Th.St->Option (Th.Ex × Th.St)):Prop:=∀ (st:Th.St) (q:Th.Ex × Th.St) (w:World) (r tb:Nat) (T:List Th.Tok),sub st=some q->RS w r tb T st ->
 Calls prog f #[.pointer (some ⟨r,0,none⟩)] w fun en w'=>Reads w r tb T q.1 q.2 en w'
variable {sub:Th.St->Option (Th.Ex × Th.St)}{v:Value}{e:Th.Ex}{B:Nat->Prop}
theorem zgb(hx:zkx 281 sub)(hB:¬ B r)(aH:st.hd.s≠[])(hi:st.bad=none)(hv:Got B w v e st)(hq:sub st.adv=some q)(h:RS w r tb T st):
  Calls prog 253 #[.pointer (some ⟨r,0,none⟩),v,.func (.func 281) #[.pointer (some ⟨r,0,none⟩)] #[]] w fun en w'=>∃ v2,en=.returned v2/\Got (fun b=>B b\/zat w b) w' v2 (Th.ziR st.hd e q.1) q.2/\RS w' r tb T q.2/\w.grownBy w' (some r):=by
 have bd:=h.lt;obtain ⟨t,tk,ti,th,tm,tc⟩:=zhs h;have jd:=th hi;rw[jd]at aH ⊢;have Hw:Hid (Th.want t.s st=st.adv):=zab (by rw[Th.want,ti t.s aH];simp);have qK:=zab aH;have HH:=zab h;have HV:=zab hv;have HQ:=zab hq;have Hi:=zab hi;have HB:=zab hB;have ja:=hv.one;clear tk ti th tm jd aH hv hq hi hB;rcases ja.shape with rfl|⟨t1,x1,rfl⟩
 all_goals
  clear ja;go_enter func253,ntmps253
  go_wp2_with fail
  refine tc.mono ?_;rintro en w1 ⟨rfl,hb⟩;have aW:=h.below hb;have Hb:=zab hb;clear tc hb;go_wp2_with fail
  refine (zaX aW ⟨t.s.toArray⟩ (by simpa using qK.o)).mono ?_;rintro en w2 ⟨rfl,aI,aF⟩;rw[show Th.want (ByteArray.mk t.s.toArray).data.toList st=st.adv from Hw.o]at aI;have eS:=zab aI;have ix:=zab (zad (zaf _ Hb.o) aF);clear aW aI aF h;go_wp2_with fail
  refine (hx _ _ _ _ _ _ HQ.o eS.o).mono ?_;rintro en w3 ⟨v2,rfl,cr,bP,aS⟩;have fF:=zab cr;have fG:=zab bP;have ej:=zab (zad ix.o aS);have jb:=cr.one;clear cr bP aS;rcases jb.shape with rfl|⟨t2,x2,rfl⟩
  all_goals
   clear jb;go_wp2_with fail
   go_ret
   refine ⟨_,rfl,⟨zb0 _ _,fun aQ=>?_⟩,fG.o,ej.o⟩;obtain ⟨n1,cR⟩:=(HV.o.gb ej.o (fun k hk=>by cases hk;exact HB.o)).rep Hi.o;obtain ⟨n2,eY⟩:=fF.o.rep aQ;exact ⟨_,ztV t (cR.mono (fun k _ hk=>.inl hk)) (eY.mono (fun k _ hk=>.inr (zyR ix.o.size hk)))⟩
theorem zdY(hx:zkx 273 sub)(hB:¬ B r)(aH:st.hd.s≠[])(hi:st.bad=none)(hv:Got B w v e st)(hq:sub st.adv=some q)(h:RS w r tb T st):
  Calls prog 253 #[.pointer (some ⟨r,0,none⟩),v,.func (.func 273) #[.pointer (some ⟨r,0,none⟩)] #[]] w fun en w'=>∃ v2,en=.returned v2/\Got (fun b=>B b\/zat w b) w' v2 (Th.ziR st.hd e q.1) q.2/\RS w' r tb T q.2/\w.grownBy w' (some r):=by
 have bd:=h.lt;obtain ⟨t,tk,ti,th,tm,tc⟩:=zhs h;have jd:=th hi;rw[jd]at aH ⊢;have Hw:Hid (Th.want t.s st=st.adv):=zab (by rw[Th.want,ti t.s aH];simp);have qK:=zab aH;have HH:=zab h;have HV:=zab hv;have HQ:=zab hq;have Hi:=zab hi;have HB:=zab hB;have ja:=hv.one;clear tk ti th tm jd aH hv hq hi hB;rcases ja.shape with rfl|⟨t1,x1,rfl⟩
 all_goals
  clear ja;go_enter func253,ntmps253
  go_wp2_with fail
  refine tc.mono ?_;rintro en w1 ⟨rfl,hb⟩;have aW:=h.below hb;have Hb:=zab hb;clear tc hb;go_wp2_with fail
  refine (zaX aW ⟨t.s.toArray⟩ (by simpa using qK.o)).mono ?_;rintro en w2 ⟨rfl,aI,aF⟩;rw[show Th.want (ByteArray.mk t.s.toArray).data.toList st=st.adv from Hw.o]at aI;have eS:=zab aI;have ix:=zab (zad (zaf _ Hb.o) aF);clear aW aI aF h;go_wp2_with fail
  refine (hx _ _ _ _ _ _ HQ.o eS.o).mono ?_;rintro en w3 ⟨v2,rfl,cr,bP,aS⟩;have fF:=zab cr;have fG:=zab bP;have ej:=zab (zad ix.o aS);have jb:=cr.one;clear cr bP aS;rcases jb.shape with rfl|⟨t2,x2,rfl⟩
  all_goals
   clear jb;go_wp2_with fail
   go_ret
   refine ⟨_,rfl,⟨zb0 _ _,fun aQ=>?_⟩,fG.o,ej.o⟩;obtain ⟨n1,cR⟩:=(HV.o.gb ej.o (fun k hk=>by cases hk;exact HB.o)).rep Hi.o;obtain ⟨n2,eY⟩:=fF.o.rep aQ;exact ⟨_,ztV t (cR.mono (fun k _ hk=>.inl hk)) (eY.mono (fun k _ hk=>.inr (zyR ix.o.size hk)))⟩
theorem zg5(hx:zkx 252 sub)(hB:¬ B r)(aH:st.hd.s≠[])(hi:st.bad=none)(hv:Got B w v e st)(hq:sub st.adv=some q)(h:RS w r tb T st):
  Calls prog 253 #[.pointer (some ⟨r,0,none⟩),v,.func (.func 252) #[.pointer (some ⟨r,0,none⟩)] #[]] w fun en w'=>∃ v2,en=.returned v2/\Got (fun b=>B b\/zat w b) w' v2 (Th.ziR st.hd e q.1) q.2/\RS w' r tb T q.2/\w.grownBy w' (some r):=by
 have bd:=h.lt;obtain ⟨t,tk,ti,th,tm,tc⟩:=zhs h;have jd:=th hi;rw[jd]at aH ⊢;have Hw:Hid (Th.want t.s st=st.adv):=zab (by rw[Th.want,ti t.s aH];simp);have qK:=zab aH;have HH:=zab h;have HV:=zab hv;have HQ:=zab hq;have Hi:=zab hi;have HB:=zab hB;have ja:=hv.one;clear tk ti th tm jd aH hv hq hi hB;rcases ja.shape with rfl|⟨t1,x1,rfl⟩
 all_goals
  clear ja;go_enter func253,ntmps253
  go_wp2_with fail
  refine tc.mono ?_;rintro en w1 ⟨rfl,hb⟩;have aW:=h.below hb;have Hb:=zab hb;clear tc hb;go_wp2_with fail
  refine (zaX aW ⟨t.s.toArray⟩ (by simpa using qK.o)).mono ?_;rintro en w2 ⟨rfl,aI,aF⟩;rw[show Th.want (ByteArray.mk t.s.toArray).data.toList st=st.adv from Hw.o]at aI;have eS:=zab aI;have ix:=zab (zad (zaf _ Hb.o) aF);clear aW aI aF h;go_wp2_with fail
  refine (hx _ _ _ _ _ _ HQ.o eS.o).mono ?_;rintro en w3 ⟨v2,rfl,cr,bP,aS⟩;have fF:=zab cr;have fG:=zab bP;have ej:=zab (zad ix.o aS);have jb:=cr.one;clear cr bP aS;rcases jb.shape with rfl|⟨t2,x2,rfl⟩
  all_goals
   clear jb;go_wp2_with fail
   go_ret
   refine ⟨_,rfl,⟨zb0 _ _,fun aQ=>?_⟩,fG.o,ej.o⟩;obtain ⟨n1,cR⟩:=(HV.o.gb ej.o (fun k hk=>by cases hk;exact HB.o)).rep Hi.o;obtain ⟨n2,eY⟩:=fF.o.rep aQ;exact ⟨_,ztV t (cR.mono (fun k _ hk=>.inl hk)) (eY.mono (fun k _ hk=>.inr (zyR ix.o.size hk)))⟩
end Go.Proofs.YtgahgkddaljmkaaGreatDoor
namespace Go.Proofs.YtgahgkddaljmkaaGreatDoor
open Tryz
open Go.RowKit
variable {st:Th.St}
theorem zry{x:List UInt8}(h:st.is x=true):st.hd.s=x:=by
 simp[Th.St.is]at h;exact h.2
variable {sub:Th.St->Option (Th.Ex × Th.St)}
theorem zrN(hx:zkx 281 sub)(k:Nat):zkx 273 (fun st=>(sub st).bind fun r=>Th.zku sub [42] [47] k r.1 r.2):=by
 intro st q w r tb T hq h;have bd:=h.lt;have cu:=h.tlt;simp only[zyQ]at hq;obtain ⟨q1,cF,bC⟩:=hq;have HQ:=zab bC;clear bC;go_enter func273,ntmps273
 go_wp2_with fail
 refine (hx _ _ _ _ _ _ cF h).mono ?_;rintro en w1 ⟨v,rfl,aq,aW,bw⟩;have cj:=zab aq;have gF:=zab aW;have lW:=zab bw;have hc:=aq.one.cells;clear aq aW bw h cF;go_wp2_with fail
 go_loopg [3] k (fun g v wr=>∃ e1 s1,Got (zat w) wr v e1 s1/\RS wr r tb T s1/\w.grownBy wr (some r)/\Th.zku sub [42] [47] g e1 s1=some q)
 case atStart=>exact ⟨q1.1,q1.2,cj.o,gF.o,lW.o,HQ.o⟩
 case round=>
  obtain ⟨e1,s1,aq,hs,hg,hp⟩:=hrel;have iz:=zab aq;have Hs:=zab hs;have Hg:=zab hg;have hz:=hg.size;clear aq hg hc;cases gk with
  |zero=>simp[Th.zku]at hp
  |succ g=>
   rw[Th.zku]at hp;cases ha:s1.is [42]
   ·have Ha:=zab ha;cases hb:s1.is [47]
    ·rw[ha,hb]at hp;simp only[zAm,zzw,if_false,zyP]at hp;subst hp;have Hb:=zab hb;have xm:=iz.o.one.cells;clear ha hb;go_wp2_with fail
     refine (zbV hs ⟨#[42]⟩ (by simp)).mono ?_;rintro en w2 ⟨rfl,aw⟩;rw[show s1.is (ByteArray.mk #[42]).data.toList=false from Ha.o];have aI:=hs.below aw;have cO:=zab aw;clear hs aw;go_wp2_with fail
     refine (zbV aI ⟨#[47]⟩ (by simp)).mono ?_;rintro en w3 ⟨rfl,bD⟩;rw[show s1.is (ByteArray.mk #[47]).data.toList=false from Hb.o];have cG:=zab (cO.o.trans (bD.mono cO.o.size));clear aI bD;go_wp2_with fail
     go_ret
     exact ⟨u3,rfl,iz.o.gb (zaf none cG.o) (by simp),Hs.o.below cG.o,zad Hg.o (zaf _ cG.o)⟩
    ·rw[ha,hb]at hp;simp only[zAu,if_true,zyQ]at hp;obtain ⟨q2,bC,fB⟩:=hp;have mE:=zab fB;have jR:=zab bC;have Hb:=zab hb;clear ha hb fB bC;go_wp2_with fail
     refine (zbV hs ⟨#[42]⟩ (by simp)).mono ?_;rintro en w2 ⟨rfl,aw⟩;rw[show s1.is (ByteArray.mk #[42]).data.toList=false from Ha.o];have aI:=hs.below aw;have cO:=zab aw;clear hs aw;go_wp2_with fail
     refine (zbV aI ⟨#[47]⟩ (by simp)).mono ?_;rintro en w3 ⟨rfl,bD⟩;rw[show s1.is (ByteArray.mk #[47]).data.toList=true from Hb.o];have cG:=zab (cO.o.trans (bD.mono cO.o.size));clear aI bD;go_wp2_with fail
     refine (zgb hx (B:=zat w) (fun hr=>by simp only[zat]at hr;omega) (by rw[zry Hb.o];simp) (zie Hb.o) (iz.o.gb (zaf none cG.o) (by simp)) jR.o (Hs.o.below cG.o)).mono ?_;rintro en w4 ⟨v4,rfl,aZ,bV,bM⟩;have dv:=zab aZ;have gh:=zab bV;have gN:=zab bM;have jj:=aZ.one.cells;clear aZ bV bM;go_wp2_with fail
     go_roundg g
     case measure=>omega
     case rel=>
      refine ⟨_,q2.2,dv.o.mono (fun b _ hb=>?_),gh.o,zad (zad Hg.o (zaf _ cG.o)) gN.o,mE.o⟩;rcases hb with hb|hb
      ·exact hb
      ·have:=cG.o.size;simp only[zat]at hb ⊢;omega
   ·have Ha:=zab ha;rw[ha]at hp;simp only[zAv,if_true,zyQ]at hp;obtain ⟨q2,bC,fB⟩:=hp;have mE:=zab fB;have jR:=zab bC;clear ha fB bC;go_wp2_with fail
    refine (zbV hs ⟨#[42]⟩ (by simp)).mono ?_;rintro en w2 ⟨rfl,bD⟩;rw[show s1.is (ByteArray.mk #[42]).data.toList=true from Ha.o];have cG:=zab bD;clear hs bD;go_wp2_with fail
    refine (zgb hx (B:=zat w) (fun hr=>by simp only[zat]at hr;omega) (by rw[zry Ha.o];simp) (zie Ha.o) (iz.o.gb (zaf none cG.o) (by simp)) jR.o (Hs.o.below cG.o)).mono ?_;rintro en w4 ⟨v4,rfl,aZ,bV,bM⟩;have dv:=zab aZ;have gh:=zab bV;have gN:=zab bM;have jj:=aZ.one.cells;clear aZ bV bM;go_wp2_with fail
    go_roundg g
    case measure=>omega
    case rel=>
     refine ⟨_,q2.2,dv.o.mono (fun b _ hb=>?_),gh.o,zad (zad Hg.o (zaf _ cG.o)) gN.o,mE.o⟩;rcases hb with hb|hb
     ·exact hb
     ·have:=cG.o.size;simp only[zat]at hb ⊢;omega
theorem zyC(hx:zkx 273 sub)(k:Nat):zkx 252 (fun st=>(sub st).bind fun r=>Th.zku sub [43] [45] k r.1 r.2):=by
 intro st q w r tb T hq h;have bd:=h.lt;have cu:=h.tlt;simp only[zyQ]at hq;obtain ⟨q1,cF,bC⟩:=hq;have HQ:=zab bC;clear bC;go_enter func252,ntmps252
 go_wp2_with fail
 refine (hx _ _ _ _ _ _ cF h).mono ?_;rintro en w1 ⟨v,rfl,aq,aW,bw⟩;have cj:=zab aq;have gF:=zab aW;have lW:=zab bw;have hc:=aq.one.cells;clear aq aW bw h cF;go_wp2_with fail
 go_loopg [3] k (fun g v wr=>∃ e1 s1,Got (zat w) wr v e1 s1/\RS wr r tb T s1/\w.grownBy wr (some r)/\Th.zku sub [43] [45] g e1 s1=some q)
 case atStart=>exact ⟨q1.1,q1.2,cj.o,gF.o,lW.o,HQ.o⟩
 case round=>
  obtain ⟨e1,s1,aq,hs,hg,hp⟩:=hrel;have iz:=zab aq;have Hs:=zab hs;have Hg:=zab hg;have hz:=hg.size;clear aq hg hc;cases gk with
  |zero=>simp[Th.zku]at hp
  |succ g=>
   rw[Th.zku]at hp;cases ha:s1.is [43]
   ·have Ha:=zab ha;cases hb:s1.is [45]
    ·rw[ha,hb]at hp;simp only[zAm,zzw,if_false,zyP]at hp;subst hp;have Hb:=zab hb;have xm:=iz.o.one.cells;clear ha hb;go_wp2_with fail
     refine (zbV hs ⟨#[43]⟩ (by simp)).mono ?_;rintro en w2 ⟨rfl,aw⟩;rw[show s1.is (ByteArray.mk #[43]).data.toList=false from Ha.o];have aI:=hs.below aw;have cO:=zab aw;clear hs aw;go_wp2_with fail
     refine (zbV aI ⟨#[45]⟩ (by simp)).mono ?_;rintro en w3 ⟨rfl,bD⟩;rw[show s1.is (ByteArray.mk #[45]).data.toList=false from Hb.o];have cG:=zab (cO.o.trans (bD.mono cO.o.size));clear aI bD;go_wp2_with fail
     go_ret
     exact ⟨u3,rfl,iz.o.gb (zaf none cG.o) (by simp),Hs.o.below cG.o,zad Hg.o (zaf _ cG.o)⟩
    ·rw[ha,hb]at hp;simp only[zAu,if_true,zyQ]at hp;obtain ⟨q2,bC,fB⟩:=hp;have mE:=zab fB;have jR:=zab bC;have Hb:=zab hb;clear ha hb fB bC;go_wp2_with fail
     refine (zbV hs ⟨#[43]⟩ (by simp)).mono ?_;rintro en w2 ⟨rfl,aw⟩;rw[show s1.is (ByteArray.mk #[43]).data.toList=false from Ha.o];have aI:=hs.below aw;have cO:=zab aw;clear hs aw;go_wp2_with fail
     refine (zbV aI ⟨#[45]⟩ (by simp)).mono ?_;rintro en w3 ⟨rfl,bD⟩;rw[show s1.is (ByteArray.mk #[45]).data.toList=true from Hb.o];have cG:=zab (cO.o.trans (bD.mono cO.o.size));clear aI bD;go_wp2_with fail
     refine (zdY hx (B:=zat w) (fun hr=>by simp only[zat]at hr;omega) (by rw[zry Hb.o];simp) (zie Hb.o) (iz.o.gb (zaf none cG.o) (by simp)) jR.o (Hs.o.below cG.o)).mono ?_;rintro en w4 ⟨v4,rfl,aZ,bV,bM⟩;have dv:=zab aZ;have gh:=zab bV;have gN:=zab bM;have jj:=aZ.one.cells;clear aZ bV bM;go_wp2_with fail
     go_roundg g
     case measure=>omega
     case rel=>
      refine ⟨_,q2.2,dv.o.mono (fun b _ hb=>?_),gh.o,zad (zad Hg.o (zaf _ cG.o)) gN.o,mE.o⟩;rcases hb with hb|hb
      ·exact hb
      ·have:=cG.o.size;simp only[zat]at hb ⊢;omega
   ·have Ha:=zab ha;rw[ha]at hp;simp only[zAv,if_true,zyQ]at hp;obtain ⟨q2,bC,fB⟩:=hp;have mE:=zab fB;have jR:=zab bC;clear ha fB bC;go_wp2_with fail
    refine (zbV hs ⟨#[43]⟩ (by simp)).mono ?_;rintro en w2 ⟨rfl,bD⟩;rw[show s1.is (ByteArray.mk #[43]).data.toList=true from Ha.o];have cG:=zab bD;clear hs bD;go_wp2_with fail
    refine (zdY hx (B:=zat w) (fun hr=>by simp only[zat]at hr;omega) (by rw[zry Ha.o];simp) (zie Ha.o) (iz.o.gb (zaf none cG.o) (by simp)) jR.o (Hs.o.below cG.o)).mono ?_;rintro en w4 ⟨v4,rfl,aZ,bV,bM⟩;have dv:=zab aZ;have gh:=zab bV;have gN:=zab bM;have jj:=aZ.one.cells;clear aZ bV bM;go_wp2_with fail
    go_roundg g
    case measure=>omega
    case rel=>
     refine ⟨_,q2.2,dv.o.mono (fun b _ hb=>?_),gh.o,zad (zad Hg.o (zaf _ cG.o)) gN.o,mE.o⟩;rcases hb with hb|hb
     ·exact hb
     ·have:=cG.o.size;simp only[zat]at hb ⊢;omega
theorem zwr(hx:zkx 252 sub):zkx 196 (fun st=>(sub st).bind fun r=>
  if r.2.is [61,61]||r.2.is [60] then (sub r.2.adv).bind fun q=>some (Th.ziR r.2.hd r.1 q.1,q.2) else some r):=by
 intro st q w r tb T hq h;have bd:=h.lt;have cu:=h.tlt;simp only[zyQ]at hq;obtain ⟨q1,cF,bC⟩:=hq;have HQ:=zab bC;clear bC;go_enter func196,ntmps196
 go_wp2_with fail
 refine (hx _ _ _ _ _ _ cF h).mono ?_;rintro en w1 ⟨v,rfl,aq,hs,hg⟩;have iz:=zab aq;have Hs:=zab hs;have Hg:=zab hg;have hc:=aq.one.cells;have hz:=hg.size;clear aq hg h cF;cases ha:q1.2.is [61,61]
 ·have Ha:=zab ha;cases hb:q1.2.is [60]
  ·have hp:=HQ.o;rw[ha,hb]at hp;simp only[zAm,zzw,if_false,zyP]at hp;subst hp;have Hb:=zab hb;clear ha hb;go_wp2_with fail
   refine (zbV hs ⟨#[61,61]⟩ (by simp)).mono ?_;rintro en w2 ⟨rfl,aw⟩;rw[show q1.2.is (ByteArray.mk #[61,61]).data.toList=false from Ha.o];have aI:=hs.below aw;have cO:=zab aw;clear hs aw;go_wp2_with fail
   refine (zbV aI ⟨#[60]⟩ (by simp)).mono ?_;rintro en w3 ⟨rfl,bD⟩;rw[show q1.2.is (ByteArray.mk #[60]).data.toList=false from Hb.o];have cG:=zab (cO.o.trans (bD.mono cO.o.size));clear aI bD;go_wp2_with fail
   go_ret
   exact ⟨v,rfl,iz.o.gb (zaf none cG.o) (by simp),Hs.o.below cG.o,zad Hg.o (zaf _ cG.o)⟩
  ·have hp:=HQ.o;rw[ha,hb]at hp;simp only[zAu,if_true,zyQ,zyP]at hp;obtain ⟨q2,bC,fB⟩:=hp;subst fB;have jR:=zab bC;have Hb:=zab hb;clear ha hb bC;go_wp2_with fail
   refine (zbV hs ⟨#[61,61]⟩ (by simp)).mono ?_;rintro en w2 ⟨rfl,aw⟩;rw[show q1.2.is (ByteArray.mk #[61,61]).data.toList=false from Ha.o];have aI:=hs.below aw;have cO:=zab aw;clear hs aw;go_wp2_with fail
   refine (zbV aI ⟨#[60]⟩ (by simp)).mono ?_;rintro en w3 ⟨rfl,bD⟩;rw[show q1.2.is (ByteArray.mk #[60]).data.toList=true from Hb.o];have cG:=zab (cO.o.trans (bD.mono cO.o.size));clear aI bD;go_wp2_with fail
   refine (zg5 hx (B:=zat w) (fun hr=>by simp only[zat]at hr;omega) (by rw[zry Hb.o];simp) (zie Hb.o) (iz.o.gb (zaf none cG.o) (by simp)) jR.o (Hs.o.below cG.o)).mono ?_;rintro en w4 ⟨v4,rfl,aZ,bV,bM⟩;have dv:=zab aZ;have gh:=zab bV;have gN:=zab bM;have jj:=aZ.one.cells;clear aZ bV bM;go_wp2_with fail
   go_ret
   refine ⟨v4,rfl,dv.o.mono (fun b _ hb=>?_),gh.o,zad (zad Hg.o (zaf _ cG.o)) gN.o⟩;rcases hb with hb|hb
   ·exact hb
   ·have:=cG.o.size;simp only[zat]at hb ⊢;omega
 ·have Ha:=zab ha;have hp:=HQ.o;rw[ha]at hp;simp only[zAv,if_true,zyQ,zyP]at hp;obtain ⟨q2,bC,fB⟩:=hp;subst fB;have jR:=zab bC;clear ha bC;go_wp2_with fail
  refine (zbV hs ⟨#[61,61]⟩ (by simp)).mono ?_;rintro en w2 ⟨rfl,bD⟩;rw[show q1.2.is (ByteArray.mk #[61,61]).data.toList=true from Ha.o];have cG:=zab bD;clear hs bD;go_wp2_with fail
  refine (zg5 hx (B:=zat w) (fun hr=>by simp only[zat]at hr;omega) (by rw[zry Ha.o];simp) (zie Ha.o) (iz.o.gb (zaf none cG.o) (by simp)) jR.o (Hs.o.below cG.o)).mono ?_;rintro en w4 ⟨v4,rfl,aZ,bV,bM⟩;have dv:=zab aZ;have gh:=zab bV;have gN:=zab bM;have jj:=aZ.one.cells;clear aZ bV bM;go_wp2_with fail
  go_ret
  refine ⟨v4,rfl,dv.o.mono (fun b _ hb=>?_),gh.o,zad (zad Hg.o (zaf _ cG.o)) gN.o⟩;rcases hb with hb|hb
  ·exact hb
  ·have:=cG.o.size;simp only[zat]at hb ⊢;omega
variable {ex:Th.Rd}
theorem zxW(hx:zso ex)(k:Nat):zkx 196 (Th.zjD ex k):=
 zwr (zyC (zrN (sub:=Th.zhP ex k) (fun _ _ _ _ _ _ hq h=>zxd hx hq h) k) k)
end Go.Proofs.YtgahgkddaljmkaaGreatDoor
