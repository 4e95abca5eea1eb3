/- Read1 .. Par7 -/
import Derived.Test.YtgahgkddaljmkaaGreatDoorV3
set_option maxRecDepth 100000
set_option maxHeartbeats 4000000
namespace Go.Proofs.YtgahgkddaljmkaaGreatDoor
open Tryz Th
section
open Go.RowKit
attribute [local go_sem] zcZ zc0 zc1
def Xt (w:World) (tb:Nat) (T:List Tok):Prop:=
 ∀i t,T[i]?=some t->w.cell? ⟨tb,i*3,none⟩=some (.int .i64 t.k)/\w.cell? ⟨tb,i*3+1,none⟩=some (.string ⟨t.s.toArray⟩)/\w.cell? ⟨tb,i*3+2,none⟩=some (.int .i64 t.at_)
structure Good (T:List Tok):Prop where
 len:T.length<=100000
 last:∀i t,T[i]?=some t->(t.k<=1↔i+1=T.length)
 text:∀t∈T,(t.k<=1->t.s=[])/\(2<=t.k->t.s≠[])/\t.k<=4/\t.at_<=100000/\t.s.length<=100000
 num:∀t∈T,t.k=3->t.s.length<=9/\∀c∈t.s,Mg c=true
structure RI (w:World) (r tb cap:Nat) (T:List Tok) (n:Nat) (f:Bool) (p:Nat):Prop where
 blk:oH w r [.slice (some ⟨tb,0,none⟩) T.length cap,.int .i64 n,.bool f,.int .i64 p] 132
 ME:Xt w tb T
 ne:tb≠r
 lt:n<T.length
 Kt:Good T
 end_:f=true->n+1=T.length
 cap_:T.length<=cap
def MN (T:List Tok) (n:Nat) (f:Bool) (p:Nat):St:=if f then⟨[],some p⟩else⟨T.drop n,none⟩
variable {w:World}{r tb cap:Nat}{T:List Tok}{n:Nat}{t:Tok}
theorem zoL(c0:w.cell? ⟨r,0,none⟩=some (.slice (some ⟨tb,0,none⟩) T.length cap))(c1:w.cell? ⟨r,1,none⟩=some (.int .i64 n))(hk:Xt w tb T)(hn:n<T.length)(_hg:T.length<=100000)(ht:T[n]?=some t):
  Calls prog 67 #[.pointer (some ⟨r,0,none⟩)] w λe w'=>e=.returned (.agg #[.int .i64 t.k,.string ⟨t.s.toArray⟩,.int .i64 t.at_])/\Below w.heap.size w w':=by
 have hl:=Tp c0;obtain⟨d0,d1,d2⟩:=hk n t ht;have hb:=Tp d0;clear hk ht;go_enter func67,ntmps67;go_wp2_with fail
 go_region
 go_wp2
 go_returns
 exact⟨rfl,(Mi _ _).drew⟩
variable {f:Bool}{p:Nat}
theorem UB(h:RI w r tb cap T n f p)(ht:T[n]?=some t):
  Calls prog 67 #[.pointer (some ⟨r,0,none⟩)] w λe w'=>e=.returned (.agg #[.int .i64 t.k,.string ⟨t.s.toArray⟩,.int .i64 t.at_])/\Below w.heap.size w w':=
 zoL (cap:=cap) (by simpa using h.blk.cell 0) (by simpa using h.blk.cell 1) h.ME h.lt h.Kt.len ht
variable {w':World}{row:Option Nat}
theorem Xt.gb(h:Xt w tb T)(hg:w.grownBy w' row)(hr:some tb≠row):Xt w' tb T:=
 λi t ht=>⟨Qt hg (h i t ht).1 hr,Qt hg (h i t ht).2.1 hr,Qt hg (h i t ht).2.2 hr⟩
theorem RI.gb{w w':World}{r tb cap:Nat}{T:List Tok}{n:Nat}{f:Bool}{p:Nat}(h:RI w r tb cap T n f p){row:Option Nat}(hg:w.grownBy w' row)(hr:some r≠row)(ht:some tb≠row):RI w' r tb cap T n f p:=
 ⟨h.blk.grown hg hr,h.ME.gb hg ht,h.ne,h.lt,h.Kt,h.end_,h.cap_⟩
theorem RI.below(h:RI w r tb cap T n f p)(hb:Below w.heap.size w w'):RI w' r tb cap T n f p:=
 h.gb (Bj none hb) (by simp) (by simp)
def RS (w:World) (r tb:Nat) (T:List Tok) (st:St):Prop:=∃cap n f p,RI w r tb cap T n f p/\st=MN T n f p
theorem RS.below{w w':World}{r tb:Nat}{T:List Tok}{st:St}(h:RS w r tb T st)(hb:Below w.heap.size w w'):RS w' r tb T st:=by obtain⟨cap,n,f,p,h,e⟩:=h;exact⟨cap,n,f,p,h.below hb,e⟩
theorem RS.gb{w w':World}{r tb:Nat}{T:List Tok}{st:St}(h:RS w r tb T st){row:Option Nat}(hg:w.grownBy w' row)(hr:some r≠row)(ht:some tb≠row):RS w' r tb T st:=by obtain⟨cap,n,f,p,h,e⟩:=h;exact⟨cap,n,f,p,h.gb hg hr ht,e⟩
variable {st:St}
theorem RS.P0(h:RS w r tb T st):tb<w.heap.size:=by obtain⟨cap,n,f,p,h,e⟩:=h;exact Tp (h.ME n (T[n]'h.lt) (Iv h.lt)).1
theorem RS.ne{w:World}{r tb:Nat}{T:List Tok}{st:St}(h:RS w r tb T st):tb≠r:=by obtain⟨cap,n,f,p,h,e⟩:=h;exact h.ne
theorem RS.set(h:RS w r tb T st)(b o:Nat)(v:Value)(hr:r≠b)(ht:tb≠b):RS (w.setCell ⟨b,o,none⟩ v) r tb T st:=
 h.gb (MF w b o v) (by simp;exact hr) (by simp;exact ht)
theorem RS.alloc{w:World}{r tb:Nat}{T:List Tok}{st:St}(h:RS w r tb T st)(o:Obj):RS (w.alloc o) r tb T st:=h.below (Mi w o)
theorem RS.Kt{w:World}{r tb:Nat}{T:List Tok}{st:St}(h:RS w r tb T st):Good T:=by obtain⟨cap,n,f,p,h,e⟩:=h;exact h.Kt
theorem RS.lt{w:World}{r tb:Nat}{T:List Tok}{st:St}(h:RS w r tb T st):r<w.heap.size:=by obtain⟨cap,n,f,p,h,e⟩:=h;exact h.blk.lt
theorem RI.tok(h:RI w r tb cap T n f p):∃t,T[n]?=some t:=
 ⟨T[n]'h.lt,Iv h.lt⟩
theorem zst(h:RI w r tb cap T n f p)(ht:T[n]?=some t)(x:List UInt8)(hx:x≠[]):
  (MN T n f p).is x=(t.s == x):=by
 cases f with
 |false=>simp[MN,St.is,St.hd,ht]
 |true=>have e:=h.end_ rfl;have hk:=(h.Kt.last n t ht).2 e;have hs:=(h.Kt.text t (ML ht)).1 hk;rw[hs];simp[MN,St.is];exact hx
theorem zl3(h:RI w r tb cap T n f p)(ht:T[n]?=some t)(k:Nat)(hk:2<=k:=by omega):
  (MN T n f p).kind k=(t.k == k):=by
 cases f with
 |false=>simp[MN,St.kind,St.hd,ht]
 |true=>have e:=h.end_ rfl;have h1:=(h.Kt.last n t ht).2 e;simp[MN,St.kind];omega
theorem RI.fail{w w':World}{r tb cap:Nat}{T:List Tok}{n:Nat}{p:Nat}(h:RI w r tb cap T n false p){t:Tok}(ht:T[n]?=some t)(hb:oH w' r [.slice (some ⟨tb,0,none⟩) T.length cap,.int .i64 (T.length-1:Nat),.bool true,.int .i64 t.at_] 132)(hg:w.grownBy w' (some r)):RS w' r tb T (MN T n false p).fail:=by have hl:=h.lt;refine⟨cap,T.length-1,true,t.at_,⟨hb,h.ME.gb hg (by simp;exact h.ne),h.ne,by omega,h.Kt,λ_=>by omega,h.cap_⟩,?_⟩;simp[MN,St.fail,St.hd,ht]
theorem RI.failed(h:RI w r tb cap T n true p)(hb:oH w' r [.slice (some ⟨tb,0,none⟩) T.length cap,.int .i64 (T.length-1:Nat),.bool true,.int .i64 p] 132)(hg:w.grownBy w' (some r)):RS w' r tb T (MN T n true p).fail:=by have hl:=h.lt;refine⟨cap,T.length-1,true,p,⟨hb,h.ME.gb hg (by simp;exact h.ne),h.ne,by omega,h.Kt,λ_=>by omega,h.cap_⟩,?_⟩;simp[MN,St.fail]
theorem RI.qM{w w':World}{r tb cap:Nat}{T:List Tok}{n:Nat}{f:Bool}{p:Nat}(h:RI w r tb cap T n f p){t:Tok}(ht:T[n]?=some t)(hk:2<=t.k)(hb:oH w' r [.slice (some ⟨tb,0,none⟩) T.length cap,.int .i64 (n+1:Nat),.bool f,.int .i64 p] 132)(hg:w.grownBy w' (some r)):RS w' r tb T (MN T n f p).qM:=by
 have hl:=h.lt;have h1:=h.Kt.last n t ht;have h2:¬(n+1=T.length):=λe=>by have:=h1.2 e;omega
 cases f with
 |true=>exact absurd (h.end_ rfl) h2
 |false=>refine⟨cap,n+1,false,p,⟨hb,h.ME.gb hg (by simp;exact h.ne),h.ne,by omega,h.Kt,(λe=>by cases e),h.cap_⟩,?_⟩;simp[MN,St.qM]
theorem Ox(h:RS w r tb T st)(x:ByteArray)(hx:x.data.toList≠[]:=by simp):
  Calls prog 248 #[.pointer (some ⟨r,0,none⟩),.string x] w λe w'=>e=.returned (.bool (st.is x.data.toList))/\Below w.heap.size w w':=by
 obtain⟨cap,n,f,p,h,rfl⟩:=h;obtain⟨t,ht⟩:=h.tok;have H:Hid (_=_):=eu (zst h ht x.data.toList hx);go_enter func248,ntmps248;go_wp2_with fail;refine(UB h ht).mono ?_;rintro e w1⟨rfl,hb⟩;clear h ht hx;go_wp2;go_ret;refine⟨?_,hb⟩;rw[H.o,<-mG];rfl
theorem Vs(h:RS w r tb T st):
  Calls prog 191 #[.pointer (some ⟨r,0,none⟩)] w λe w'=>e=.returned (.tuple #[])/\RS w' r tb T st.fail/\w.grownBy w' (some r):=by
 obtain⟨cap,n,f,p,h,rfl⟩:=h;obtain⟨t,ht⟩:=h.tok;have hl:=h.lt;have hg:=h.Kt.len;have H:=eu h;cases f with
 |true=>
  have B:=h.blk;have c0:=B.cell 0;have c1:=B.cell 1;have c2:=B.cell 2;have c3:=B.cell 3;have f1:=B.frozen 1;have BB:=eu B;simp at c0 c1 c2 c3;clear h ht B;go_enter func191,ntmps191;go_wp2;go_end0
  rw[show((T.length:Int)-1)=((T.length-1:Nat):Int) by omega];have B2:=BB.o.set 1 (.int .i64 ((T.length-1:Nat):Int));exact⟨rfl,H.o.failed B2 (MF _ _ _ _),MF _ _ _ _⟩
 |false=>
  have B:=h.blk;have c0:=B.cell 0;have c1:=B.cell 1;have c2:=B.cell 2;have c3:=B.cell 3;have f2:=B.frozen 2;have hb:=eu B;have Ht:=eu ht;simp at c0 c1 c2 c3;clear h ht B;go_enter func191,ntmps191;go_wp2_with fail;have B1:=hb.o.set 2 (.bool true);refine(zoL (cap:=cap) (by simpa using B1.cell 0) (by simpa using B1.cell 1) (H.o.ME.gb (MF _ _ _ _) (by simp;exact H.o.ne)) hl hg Ht.o).mono ?_;rintro e w1⟨rfl,hw⟩;have B2:=B1.below hw B1.lt;clear c0 c1 c2 c3 f2;have c0:=B2.cell 0;have c1:=B2.cell 1;have c2:=B2.cell 2;have c3:=B2.cell 3;have f3:=B2.frozen 3;have f1:=B2.frozen 1;simp at c0 c1 c2 c3;have jh:=eu B2;clear B1 B2;go_wp2;go_end0
  rw[show((T.length:Int)-1)=((T.length-1:Nat):Int) by omega];have B3:=(jh.o.set 3 (.int .i64 (t.at_:Int))).set 1 (.int .i64 ((T.length-1:Nat):Int));have hG:=qN (qN (qN (MF w r 2 (.bool true)) (Bj (some r) hw)) (MF _ _ 3 (.int .i64 (t.at_:Int)))) (MF _ _ 1 (.int .i64 ((T.length-1:Nat):Int)));exact⟨rfl,H.o.fail Ht.o B3 hG,hG⟩
theorem zlb(h:RI w r tb cap T n f p)(ht:T[n]?=some t)(x:List UInt8)(hx:x≠[])(hi:(MN T n f p).is x=true):2<=t.k:=by
 rw[zst h ht x hx]at hi;rcases Rs t.k 2 with hk|hk
 .have:=(h.Kt.text t (ML ht)).1 (by omega);rw[this]at hi;simp at hi;exact absurd hi hx
 .exact hk
theorem RI.step{w1:World}(h:RI w r tb cap T n f p)(ht:T[n]?=some t)(hk:2<=t.k)(hw:Below w.heap.size w w1):RS (w1.setCell ⟨r,1,none⟩ (.int .i64 ((n:Int)+1))) r tb T (MN T n f p).qM/\w.grownBy (w1.setCell ⟨r,1,none⟩ (.int .i64 ((n:Int)+1))) (some r):=by have hG:=qN (Bj (some r) hw) (MF w1 r 1 (.int .i64 ((n:Int)+1)));exact⟨h.qM ht hk (by have:=(h.blk.below hw h.blk.lt).set 1 (.int .i64 ((n:Int)+1));simpa using this) hG,hG⟩
theorem RF(h:RS w r tb T st)(x:ByteArray)(hx:x.data.toList≠[]:=by simp):
  Calls prog 192 #[.pointer (some ⟨r,0,none⟩),.string x] w λe w'=>e=.returned (.bool (st.is x.data.toList))/\RS w' r tb T (if st.is x.data.toList then st.qM else st)/\w.grownBy w' (some r):=by
 have H:=eu h;cases hi:st.is x.data.toList
 .have Hi:=eu hi;clear hi;go_enter func192,ntmps192;go_wp2_with fail;refine(Ox h x hx).mono ?_;rintro e w1⟨rfl,hb⟩;rw[Hi.o];clear h hx;go_wp2;go_ret;exact⟨rfl,H.o.below hb,Bj _ hb⟩
 .have Hi:=eu hi;have h0:=h;obtain⟨cap,n,f,p,bJ,rfl⟩:=h0;obtain⟨t,ht⟩:=bJ.tok;have hk:=eu (zlb bJ ht _ hx hi);have hn:=bJ.lt;have hg:=bJ.Kt.len;have HR:=eu bJ;have Ht:=eu ht;clear hi bJ ht;go_enter func192,ntmps192;go_wp2_with fail;refine(Ox h x hx).mono ?_;rintro e w1⟨rfl,hb⟩;rw[Hi.o];have B:=HR.o.blk.below hb HR.o.blk.lt;have c1:=B.cell 1;have f1:=B.frozen 1;simp at c1;have hS:=eu (HR.o.step Ht.o hk.o hb);clear h hx B;go_wp2;go_ret;exact⟨rfl,hS.o.1,hS.o.2⟩
theorem Qi(h:RS w r tb T st)(x:ByteArray)(hx:x.data.toList≠[]:=by simp):
  Calls prog 117 #[.pointer (some ⟨r,0,none⟩),.string x] w λe w'=>e=.returned (.tuple #[])/\RS w' r tb T (Th.want x.data.toList st)/\w.grownBy w' (some r):=by
 have H:=eu h;cases hi:st.is x.data.toList
 .have Hi:=eu hi;have Hw:Hid (Th.want x.data.toList st=st.fail):=eu (by simp[Th.want,hi]);clear hi;go_enter func117,ntmps117;go_wp2_with fail;refine(RF h x hx).mono ?_;rintro e w1⟨rfl,hs,hg⟩;rw[Hi.o]at hs|-;have Hs:Hid (RS w1 r tb T st):=eu (by simpa using hs);have Hg:=eu hg;clear h hx hs hg;go_wp2_with fail;refine(Vs Hs.o).mono ?_;rintro e w2⟨rfl,aI,aF⟩;have eS:=eu aI;have ix:=eu aF;clear aI aF;go_wp2;go_end0
  exact⟨rfl,by rw[Hw.o];exact eS.o,qN Hg.o ix.o⟩
 .have Hi:=eu hi;have Hw:Hid (Th.want x.data.toList st=st.qM):=eu (by simp[Th.want,hi]);clear hi;go_enter func117,ntmps117;go_wp2_with fail;refine(RF h x hx).mono ?_;rintro e w1⟨rfl,hs,hg⟩;rw[Hi.o]at hs|-;have Hs:Hid (RS w1 r tb T st.qM):=eu (by simpa using hs);have Hg:=eu hg;clear h hx hs hg;go_wp2;go_end0
  exact⟨rfl,by rw[Hw.o];exact Hs.o,Hg.o⟩
theorem Xk(h:RS w r tb T st):
  Calls prog 115 #[.pointer (some ⟨r,0,none⟩)] w λe w'=>e=.returned (.agg #[.string ⟨(Th.IG st).1.s.toArray⟩,.int .i64 (Th.IG st).1.at_])/\RS w' r tb T (Th.IG st).2/\w.grownBy w' (some r):=by
 have bd:=h.lt;have cu:=h.P0;obtain⟨cap,n,f,p,bJ,rfl⟩:=h;obtain⟨t,ht⟩:=bJ.tok;have hn:=bJ.lt;have hg:=bJ.Kt.len;have HR:=eu bJ;have Ht:=eu ht;have iI:=zl3 bJ ht 2;have h0:=bJ.below (Mi w (.cells #[.string ⟨#[]⟩,.int .i64 0] 88));cases hk:(t.k == 2)
 .have e:Th.IG (MN T n f p)=(ON,(MN T n f p).fail):=by rw[Th.IG,iI,hk];rfl
  rw[e];have fy:((t.k:Int) == 2)=false:=by simp at hk|-;omega
  clear bJ iI e hk;go_enter func115,ntmps115;go_wp2_with fail;refine(UB h0 ht).mono ?_;rintro e w1⟨rfl,hb⟩;have h1:=eu (h0.below hb);clear h0 ht;have B:=(gH w [.string ⟨#[]⟩,.int .i64 0] 88).below hb (by simp);have q0:=B.cell 0;have q1:=B.cell 1;have g0:=B.frozen 0;have g1:=B.frozen 1;have HB:=eu B;have dd:=B.lt;simp at q0 q1;clear B;go_wp2_with fail;have h2:RS _ r tb T (MN T n f p):=⟨cap,n,f,p,h1.o.below (Mi w1 (.cells #[.int .i64 t.k,.string ⟨t.s.toArray⟩,.int .i64 t.at_] 135)),rfl⟩;refine(Vs h2).mono ?_;rintro e w2⟨rfl,hs,aF⟩;clear h2;have B2:=(HB.o.alloc (.cells #[.int .i64 t.k,.string ⟨t.s.toArray⟩,.int .i64 t.at_] 135)).grown aF (by simp;omega);clear q0 q1 g0 g1;have q0:=B2.cell 0;have q1:=B2.cell 1;have g0:=B2.frozen 0;have g1:=B2.frozen 1;simp at q0 q1;have Hs:=eu hs;have HG:=eu (qN (qN (qN (IS w _ (some r)) (Bj (some r) hb)) (IS w1 _ (some r))) aF);have gA:=eu B2;clear hs aF B2 hb dd;go_wp2_with fail;have B3:=(gA.o.set 0 (.string ⟨#[]⟩)).set 1 (.int .i64 0);have p0:=B3.cell 0;have p1:=B3.cell 1;simp at p0 p1;refine mF (v:=.agg #[.string ⟨#[]⟩,.int .i64 0]) (by simp[results,Tryz.results115,go_sem,p0,p1]) rfl ⟨rfl,?_,?_⟩
  .exact(Hs.o.set _ _ _ (by omega) (by omega)).set _ _ _ (by omega) (by omega)
  .exact Nv (Nv HG.o _ _ (qP _)) _ _ (qP _)
 .have e:Th.IG (MN T n f p)=(t,(MN T n f p).qM):=by
   rw[Th.IG,iI,hk];cases f with
   |false=>simp[MN,St.hd,ht]
   |true=>have e1:=(bJ.Kt.last n t ht).2 (bJ.end_ rfl);simp at hk;omega
  rw[e];have aG:2<=t.k:=by simp at hk;omega
  have fy:((t.k:Int) == 2)=true:=by simp at hk|-;omega
  clear bJ iI e hk;go_enter func115,ntmps115;go_wp2_with fail;refine(UB h0 ht).mono ?_;rintro e w1⟨rfl,hb⟩;have e8:=h0.below hb;have hS:=eu (HR.o.step Ht.o aG (w1:=w1) (((Mi w _).trans (hb.mono (by simp)))));have c1:=e8.blk.cell 1;have f1:=e8.blk.frozen 1;simp at c1;clear h0 ht e8;have B:=(gH w [.string ⟨#[]⟩,.int .i64 0] 88).below hb (by simp);have q0:=B.cell 0;have q1:=B.cell 1;have g0:=B.frozen 0;have g1:=B.frozen 1;have HB:=eu B;have dd:=B.lt;have cg:r<w1.heap.size:=by omega
  simp at q0 q1;clear B;go_wp2_with fail;have B3:=(((HB.o.other ⟨r,1,none⟩ (.int .i64 ((n:Int)+1)) (by simp;omega)).set 0 (.string ⟨t.s.toArray⟩)).set 1 (.int .i64 t.at_)).alloc (.cells #[.int .i64 t.k,.string ⟨t.s.toArray⟩,.int .i64 t.at_] 135);have p0:=B3.cell 0;have p1:=B3.cell 1;simp at p0 p1;refine mF (v:=.agg #[.string ⟨t.s.toArray⟩,.int .i64 t.at_]) (by simp[results,Tryz.results115,go_sem,p0,p1]) rfl ⟨rfl,?_,?_⟩
  .exact((hS.o.1.set _ _ _ (by omega) (by omega)).set _ _ _ (by omega) (by omega)).alloc _
  .exact qN (Nv (Nv hS.o.2 _ _ (qP _)) _ _ (qP _)) (IS _ _ _)
theorem UM(h:RS w r tb T st):
  ∃t:Tok,(∀k,2<=k->st.kind k=(t.k == k))/\(∀x,x≠[]->st.is x=(t.s == x))/\(st.bad=none->st.hd=t)/\t∈T /\
   Calls prog 67 #[.pointer (some ⟨r,0,none⟩)] w λe w'=>e=.returned (.agg #[.int .i64 t.k,.string ⟨t.s.toArray⟩,.int .i64 t.at_])/\Below w.heap.size w w':=by
 obtain⟨cap,n,f,p,h,rfl⟩:=h;obtain⟨t,ht⟩:=h.tok;refine⟨t,λk hk=>zl3 h ht k hk,λx hx=>zst h ht x hx,?_,ML ht,UB h ht⟩;intro hb;cases f with
 |true=>simp[MN]at hb
 |false=>simp[MN,St.hd,ht]
def Rc (t:Tok):List Value:=[.string ⟨t.s.toArray⟩,.int .i64 t.at_]
def Ms (l:List Tok):List Value:=l.flatMap Rc
theorem zjt(l:List Tok)(t:Tok):Ms (l++[t])=Ms l++Rc t:=by simp[Ms]
theorem zrM(h:st.kind 2=true):Th.JR st=(st.hd::(Th.JR st.qM).1,(Th.JR st.qM).2):=by
 obtain⟨rest,bad⟩:=st;cases bad with
 |some p=>simp[St.kind]at h
 |none=>
  cases rest with
  |nil=>simp[St.kind,St.hd,ON]at h
  |cons t r=>simp[St.kind,St.hd]at h;simp[Th.JR,St.hd,St.qM,h]
theorem ztR(h:st.kind 2=false):Th.JR st=([],st):=by
 obtain⟨rest,bad⟩:=st;cases bad with
 |some p=>rfl
 |none=>
  cases rest with
  |nil=>rfl
  |cons t r=>simp[St.kind,St.hd]at h;simp[Th.JR,h]
variable {k:Nat}
theorem zvK(h:st.kind k=true):st.bad=none:=by
 obtain⟨rest,bad⟩:=st;cases bad with
 |some p=>simp[St.kind]at h
 |none=>rfl
theorem Vt(hk:2<=k)(h:st.kind k=true):st.qM.rest.length<st.rest.length:=by
 obtain⟨rest,bad⟩:=st;cases rest with
 |nil=>simp[St.kind,St.hd,ON]at h;omega
 |cons t r=>simp[St.qM]
theorem zqz:(prog.info? 88).map (λi=>(i.zero,i.size,i.bytes))=some (some (.agg #[.string ⟨#[]⟩,.int .i64 0]),2,24):=by kernel_rfl
theorem ztW(h:RS w r tb T st):st.rest.length<=100000:=by
 obtain⟨cap,n,f,p,h,rfl⟩:=h;have:=h.Kt.len;cases f<;>simp[MN]
 omega
theorem PQ(v:Value):v.ownBlock=none\/v.ownBlock≠none:=by
 cases v.ownBlock with
 |none=>exact .inl rfl
 |some k=>exact .inr (by simp)
variable {base:Nat}{e:TypeId}{size:Nat}{v:Value}{xs:List Value}
theorem Qa(h:w.ownsRow base e size v n xs)(hr:r<base:=by omega):v.ownBlock=none\/v.ownBlock≠some r:=by
 cases hv:v.ownBlock with
 |none=>exact .inl rfl
 |some k=>exact .inr (by have:=(h.lt k hv).1;simp;omega)
theorem zpG(h:w.ownsRow base e size v n xs)(hr:r<base):some r≠v.ownBlock:=by intro e;have:=(h.lt r e.symm).1;omega
theorem US{a b c:World}{r:Option Nat}(h:a.grownBy b r)(ho:b.ownsRow a.heap.size e size v n xs)(hg:b.grownBy c v.ownBlock):a.grownBy c r:=
 ⟨hg.os.trans h.os,hg.tape.trans h.tape,hg.output.trans h.output,yM h.size hg.size,
  λk hk hr=>(hg.block k (Kl hk h.size) (zpG ho hk)).trans (h.block k hk hr)⟩
theorem zlH(h:RS w r tb T st):
  Calls prog 116 #[.pointer (some ⟨r,0,none⟩)] w λe w'=>∃v,e=.returned v/\((Th.JR st).1=[]->v=.slice none 0 0)/\w'.ownsRow w.heap.size 88 2 v (Th.JR st).1.length (Ms (Th.JR st).1) /\
   RS w' r tb T (Th.JR st).2/\w.grownBy w' (some r):=by
 have bd:=h.lt;have cu:=h.P0;have aH:=h.ne;have hlen:=ztW h;obtain⟨i0,hi,bq,aP,bF⟩:=nC zqz;have HI:=eu hi;clear hi;have HZ:=eu (kK bq (kK aP bF));clear bq aP bF;have H:=eu h;clear h;go_enter func116,ntmps116;go_wp2_with fail
 go_loopg [3] st.rest.length (λk v wr=>∃(l:List Tok)(s1:St),RS wr r tb T s1/\s1.rest.length<=k/\l.length+s1.rest.length<=100000/\wr.ownsRow w.heap.size 88 2 v l.length (Ms l)/\w.grownBy wr (some r)/\(l=[]->v=.slice none 0 0)/\Th.JR st=(l++(Th.JR s1).1,(Th.JR s1).2))
 case atStart=>exact⟨[],st,H.o,qP _,by simpa using hlen,kt _ _ _ _,QT _ _,λ_=>rfl,by simp⟩
 case round=>
  obtain⟨l,s1,hs,hk,hl,ai,hg,ck,he⟩:=hrel;have vZ:=eu ck;clear ck;obtain⟨t,tk,ti,th,tm,tc⟩:=UM hs;have Hs:=eu hs;have He:=eu he;have Hg:=eu hg;have Ho:=eu ai;cases hv:s1.kind 2
  .have fy:((t.k:Int) == 2)=false:=by rw[tk 2 (by omega)]at hv;simp at hv|-;omega
   have Hv:=eu hv;clear hs he hg ai tk ti th tm hv;go_wp2_with fail;refine tc.mono ?_;rintro e w1⟨rfl,hb⟩;clear tc;have Hb:=eu hb;clear hb;go_wp2;go_ret;have e:=He.o;rw[ztR Hv.o]at e;rw[e];simp only[Rq];exact⟨_,rfl,vZ.o,Ho.o.kept (Bj none Hb.o) (PQ _),Hs.o.below Hb.o,qN Hg.o (Bj _ Hb.o)⟩
  .have fy:((t.k:Int) == 2)=true:=by rw[tk 2 (by omega)]at hv;simp at hv|-;omega
   have Hv:=eu hv;clear hs he hg ai tk ti th tm hv;go_wp2_with fail;refine tc.mono ?_;rintro e w1⟨rfl,hb⟩;clear tc;have Hb:=eu hb;have aW:=Hs.o.below hb;clear hb;go_wp2_with fail;refine(Xk aW).mono ?_;rintro e w2⟨rfl,aI,aF⟩;have e2:Th.IG s1=(s1.hd,s1.qM):=by simp[Th.IG,Hv.o]
   rw[e2]at aI|-;have Df:Hid (Th.JR st=((l++[s1.hd])++(Th.JR s1.qM).1,(Th.JR s1.qM).2)):=eu (by rw[He.o,zrM Hv.o];simp);have aC:=Vt (by omega) Hv.o;have bB:=(Ho.o.kept (Bj none Hb.o) (PQ _)).kept aF (Qa Ho.o bd);have aS:=qN (qN Hg.o (Bj _ Hb.o)) aF;have cT:=aS.size;have eS:=eu aI;have ej:=eu aS;clear aW aI aF e2 aS;generalize s1.hd=x at *;generalize s1.qM=s2 at *;have eL:=bB.alloc (.cells #[.string ⟨x.s.toArray⟩,.int .i64 x.at_] 88);go_wp2_with (at_builtin;go_loud (refine IQ _ rfl _ _ 89 rfl w.heap.size 88 i0 _ 2 24 underlying89 HI.o HZ.o.1 HZ.o.2.1 HZ.o.2.2 rfl (by decide) _ _ _ rfl eL ⟨w2.heap.size,0,none⟩ 1 1 (Rc x) rfl rfl (cell_two_new _ _ _ _) (by simp[Value.oneCell',Rc]) (by unfold maxLen;omega) (by omega) (by simp;omega) ?_);intro v' w3 dR ah _)
   go_roundg s2.rest.length
   case measure=>omega
   case rel=>refine⟨l++[x],s2,(eS.o.alloc _).gb ah (zpG eL bd) (zpG eL cu),qP _,by simp;omega,?_,US (qN ej.o (IS _ _ _)) eL ah,λe=>by simp at e,Df.o⟩;rw[zjt,IJ];exact dR
theorem zn3(h:RS w r tb T st):
  Calls prog 116 #[.pointer (some ⟨r,0,none⟩)] w λe w'=>∃v,e=.returned v/\w'.ownsRow w.heap.size 88 2 v (Th.JR st).1.length (Ms (Th.JR st).1) /\
   RS w' r tb T (Th.JR st).2/\w.grownBy w' (some r):=
 (zlH h).mono λ_ _⟨v,h1,_,h3⟩=>⟨v,h1,h3⟩
theorem zf3:∀(l:List UInt8)(acc:Nat),(∀c∈l,Mg c=true)->Lib.decFrom acc l=some (l.foldl (λa c=>10*a+(c.toNat-48)) acc)
 |[],acc,_=>rfl
 |c::l,acc,h=>by have hc:=h c (by simp);simp only[Mg,OR,tY]at hc;have ih:=zf3 l (10*acc+(c.toNat-48)) (λd hd=>h d (by simp[hd]));simp only[Lib.decFrom,Lib.digitVal];rw[nB hc];simp only[NV];rw[show acc*10+(c.toNat-48)=10*acc+(c.toNat-48) by omega];exact ih
theorem zpd(l:List UInt8)(h0:l≠[])(h:∀c∈l,Mg c=true):Lib.atoi l=some (Th.val l:Int):=by
 cases l with
 |nil=>exact absurd rfl h0
 |cons c r=>
  have hc:=h c (by simp);simp only[Mg,OR,tY]at hc;have h1:(c == 45)=false:=by rw[<-Jc];intro e;have:=eq_of_beq e;subst this;simp at hc
  have h2:(c == 43)=false:=by rw[<-Jc];intro e;have:=eq_of_beq e;subst this;simp at hc
  simp only[Lib.atoi,h1,h2,Ps,nt,Lib.decNat,List.isEmpty_cons];rw[zf3 _ _ h];rfl
theorem Zp:∀(l:List UInt8)(acc:Nat),(∀c∈l,Mg c=true)->l.foldl (λa c=>10*a+(c.toNat-48)) acc<(acc+1)*10 ^ l.length
 |[],acc,_=>by simp
 |c::l,acc,h=>by have hc:=h c (by simp);simp only[Mg,OR,tY]at hc;have ih:=Zp l (10*acc+(c.toNat-48)) (λd hd=>h d (by simp[hd]));simp only[NV,Kh];refine Kl ih ?_;rw[Nat.pow_succ,Nat.mul_comm (10 ^ l.length) 10,<-Nat.mul_assoc];exact Jf _ (by omega)
theorem zoS(l:List UInt8)(hl:l.length<=9)(h:∀c∈l,Mg c=true):Th.val l<1000000000:=by have h1:=Zp l 0 h;have h2:10 ^ l.length<=10 ^ 9:=Zr (by omega) hl;unfold Th.val;simp at h1 h2;omega
theorem zi3(w:World)(s:ByteArray):Below w.heap.size w (Lib.bytesWorld w 5 s):=by
 have h:=(Mi w (.cells (Lib.bytesCells w 5 s) 5)).drew;refine⟨rfl,rfl,rfl,?_,?_⟩
 .have:=h.size;simp only[Lib.bytesWorld,World.freeze];split<;>simp
 .intro k hk;rw[<-h.block k hk];simp only[Lib.bytesWorld,World.freeze];split
  .rfl
  .simp only[I5];rw[qj];rfl
theorem zsB(l:List UInt8):(⟨l.toArray⟩:ByteArray).size=l.length:=by show l.toArray.size=_;simp
theorem zgr(h:RS w r tb T st)(lo hi:Nat)(_hlo:lo<=2147483647)(_hhi:hi<=2147483647:=by omega):
  Calls prog 280 #[.pointer (some ⟨r,0,none⟩),.int .i64 lo,.int .i64 hi] w λe w'=>e=.returned (.int .i64 (Th.Kv lo hi st).1)/\RS w' r tb T (Th.Kv lo hi st).2/\w.grownBy w' (some r):=by
 have bd:=h.lt;have cu:=h.P0;have HH:=eu h;obtain⟨cap,n,f,p,bJ,rfl⟩:=h;obtain⟨t,ht⟩:=bJ.tok;have hn:=bJ.lt;have hg:=bJ.Kt.len;have HR:=eu bJ;have Ht:=eu ht;have iI:=zl3 bJ ht 3;cases hk:(t.k == 3)
 .have e:Th.Kv lo hi (MN T n f p)=(0,(MN T n f p).fail):=by rw[Th.Kv,iI,hk];simp
  rw[e];have fy:((t.k:Int) == 3)=false:=by simp at hk|-;omega
  clear iI e hk;go_enter func280,ntmps280;go_wp2_with fail;refine(UB bJ ht).mono ?_;rintro e w1⟨rfl,hb⟩;have aW:=eu ((HH.o.below hb).alloc (.cells #[.int .i64 t.k,.string ⟨t.s.toArray⟩,.int .i64 t.at_] 135));have Hb:=eu hb;clear bJ ht hb;go_wp2_with fail;refine(Vs aW.o).mono ?_;rintro e w2⟨rfl,aI,aF⟩;have eS:=eu aI;have ix:=eu aF;clear aI aF;go_wp2;go_ret;exact⟨rfl,eS.o,qN (qN (Bj _ Hb.o) (IS _ _ _)) ix.o⟩
 .have kh:(MN T n f p).hd=t:=by
   cases f with
   |false=>simp[MN,St.hd,ht]
   |true=>have e1:=(bJ.Kt.last n t ht).2 (bJ.end_ rfl);simp at hk;omega
  have dG:t.k=3:=by simpa using hk
  have ye:=bJ.Kt.text t (ML ht);have mh:=bJ.Kt.num t (ML ht) dG;have aV:=eu (zpd t.s (ye.2.1 (by omega)) mh.2);have gW:=zoS t.s mh.1 mh.2;have fy:((t.k:Int) == 3)=true:=by simp at hk|-;omega
  have aG:2<=t.k:=by omega
  obtain⟨m,hm⟩:∃m,Th.val t.s=m:=⟨_,rfl⟩;rw[hm]at gW aV;have te:=eu mh.1;by_cases IU:lo<=m/\m<=hi
  .obtain⟨h1,h2⟩:=IU;have e:Th.Kv lo hi (MN T n f p)=(m,(MN T n f p).qM):=by rw[Th.Kv,iI,hk,kh,hm];simp[h1,h2]
   rw[e];clear iI e hk kh ye mh hm dG;go_enter func280,ntmps280;go_wp2_with fail;refine(UB bJ ht).mono ?_;rintro e w1⟨rfl,hb⟩;have e8:=bJ.below hb;have Hb:=eu hb;clear bJ ht hb;go_wp2_with fail;refine(Tryz.strconv_Atoi _ (m:Int) (by rw[zsB];have:=te.o;omega) (by simpa using aV.o) _).mono ?_;rintro e w2⟨rfl,ts,hw⟩;have aw:Below w.heap.size w w2:=by rw[hw];exact((Hb.o.trans ((Mi w1 _).mono Hb.o.size)).trans ((zi3 _ _).mono (by simp;have:=Hb.o.size;omega)))
   clear hw;have pd:=HR.o.below aw;have c1:=pd.blk.cell 1;have f1:=pd.blk.frozen 1;simp at c1;have hS:=eu (HR.o.step Ht.o aG aw);clear e8 pd aw;go_wp2;go_ret;exact⟨rfl,hS.o.1,hS.o.2⟩
  .have e:Th.Kv lo hi (MN T n f p)=(0,(MN T n f p).fail):=by
    rw[Th.Kv,iI,hk,kh,hm];rcases Rs m lo with h1|h1
    .simp;omega
    .simp;omega
   rw[e];clear iI e hk kh ye mh hm dG;go_enter func280,ntmps280;go_wp2_with fail;refine(UB bJ ht).mono ?_;rintro e w1⟨rfl,hb⟩;have e8:=bJ.below hb;have Hb:=eu hb;clear bJ ht hb;go_wp2_with fail;refine(Tryz.strconv_Atoi _ (m:Int) (by rw[zsB];have:=te.o;omega) (by simpa using aV.o) _).mono ?_;rintro e w2⟨rfl,ts,hw⟩;have aw:Below w.heap.size w w2:=by rw[hw];exact((Hb.o.trans ((Mi w1 _).mono Hb.o.size)).trans ((zi3 _ _).mono (by simp;have:=Hb.o.size;omega)))
   have aI:=eu (HH.o.below aw);have cO:=eu aw;clear hw aw e8;rcases Rs m lo with h1|h1
   .clear IU;go_wp2_with fail;refine(Vs aI.o).mono ?_;rintro e w3⟨rfl,bP,aS⟩;have fG:=eu bP;have ej:=eu aS;clear bP aS;go_wp2;go_ret;exact⟨rfl,fG.o,qN (Bj _ cO.o) ej.o⟩
   .have h2:hi<m:=by omega
    clear IU;go_wp2_with fail;refine(Vs aI.o).mono ?_;rintro e w3⟨rfl,bP,aS⟩;have fG:=eu bP;have ej:=eu aS;clear bP aS;go_wp2;go_ret;exact⟨rfl,fG.o,qN (Bj _ cO.o) ej.o⟩
theorem zuF(h:RS w r tb T st):
  Calls prog 272 #[.pointer (some ⟨r,0,none⟩)] w λe w'=>e=.returned (.int .i64 (Th.Kv 1 99 st).1)/\RS w' r tb T (Th.Kv 1 99 st).2/\w.grownBy w' (some r):=by
 go_enter func272,ntmps272;go_wp2_with fail;refine(zgr h 1 99 (by omega)).mono ?_;rintro e w1⟨rfl,hs,hg⟩;have Hs:=eu hs;have Hg:=eu hg;clear h hs hg;go_wp2;go_ret;exact⟨rfl,Hs.o,Hg.o⟩
theorem zeI(h:RS w r tb T st):
  Calls prog 286 #[.pointer (some ⟨r,0,none⟩)] w λe w'=>e=.returned (.bool (NN st))/\Below w.heap.size w w':=by
 obtain⟨t,tk,ti,th,tm,tc⟩:=UM h;have H:=eu h;have aG:=tk 2 (by omega);have dG:=tk 3 (by omega);cases h2:st.kind 2
 .have wJ:((t.k:Int) == 2)=false:=by rw[aG]at h2;simp at h2|-;omega
  have HB:Hid (NN st=(st.kind 3||st.is [123]||st.is [40])):=eu (by simp[NN,h2]);clear h2;cases h3:st.kind 3
  .have uA:((t.k:Int) == 3)=false:=by rw[dG]at h3;simp at h3|-;omega
   have gA:Hid (NN st=(st.is [123]||st.is [40])):=eu (by rw[HB.o,h3];simp);clear h3 aG dG tk ti th tm HB;go_enter func286,ntmps286;go_wp2_with fail;refine tc.mono ?_;rintro e w1⟨rfl,hb⟩;have Hb:=eu hb;have aW:=h.below hb;clear tc h hb;go_wp2_with fail;refine(Ox aW ⟨#[123]⟩).mono ?_;rintro e w2⟨rfl,hb⟩;have cO:=eu hb;have aI:=aW.below hb;clear hb;cases h4:st.is [123]
   .have H4:=eu h4;clear h4 aW;go_wp2_with fail;refine(Ox aI ⟨#[40]⟩).mono ?_;rintro e w3⟨rfl,hb⟩;have cG:=eu hb;clear hb aI;go_wp2;go_ret;refine⟨?_,(Hb.o.trans (cO.o.mono Hb.o.size)).trans (cG.o.mono (yM Hb.o.size cO.o.size))⟩;rw[gA.o,H4.o];rfl
   .have H4:=eu h4;clear h4 aW aI;go_wp2;go_ret;refine⟨?_,Hb.o.trans (cO.o.mono Hb.o.size)⟩;rw[gA.o,H4.o];rfl
  .have uA:((t.k:Int) == 3)=true:=by rw[dG]at h3;simp at h3|-;omega
   have gA:Hid (NN st=true):=eu (by rw[HB.o,h3];simp);clear h3 aG dG tk ti th tm HB;go_enter func286,ntmps286;go_wp2_with fail;refine tc.mono ?_;rintro e w1⟨rfl,hb⟩;have Hb:=eu hb;clear tc h hb;go_wp2;go_ret;exact⟨by rw[gA.o];rfl,Hb.o⟩
 .have wJ:((t.k:Int) == 2)=true:=by rw[aG]at h2;simp at h2|-;omega
  have gA:Hid (NN st=true):=eu (by simp[NN,h2]);clear h2 aG dG tk ti th tm;go_enter func286,ntmps286;go_wp2_with fail;refine tc.mono ?_;rintro e w1⟨rfl,hb⟩;have Hb:=eu hb;clear tc h hb;go_wp2;go_ret;exact⟨by rw[gA.o];rfl,Hb.o⟩
theorem zfX(h:RS w r tb T st)(c:Bool):
  Calls prog 251 #[.pointer (some ⟨r,0,none⟩),.bool c] w λe w'=>e=.returned (.bool (NL c st))/\Below w.heap.size w w':=by
 cases h1:st.is [59]
 .have e1:NL c st=false:=by simp[NL,h1]
  rw[e1];have H1:=eu h1;clear h1 e1;go_enter func251,ntmps251;go_wp2_with fail;refine(Ox h ⟨#[59]⟩).mono ?_;rintro e w1⟨rfl,hb⟩;rw[show st.is (ByteArray.mk #[59]).data.toList=false from H1.o];have Hb:=eu hb;clear h hb;go_wp2;go_ret;exact⟨rfl,Hb.o⟩
 .have H1:=eu h1;cases c with
  |false=>
   have e1:NL false st=true:=by simp[NL,h1]
   rw[e1];clear h1 e1;go_enter func251,ntmps251;go_wp2_with fail;refine(Ox h ⟨#[59]⟩).mono ?_;rintro e w1⟨rfl,hb⟩;rw[show st.is (ByteArray.mk #[59]).data.toList=true from H1.o];have Hb:=eu hb;clear h hb;go_wp2_with fail
   go_quiet (fail)
   go_wp2;go_ret;exact⟨rfl,below_drewN Hb.o _⟩
  |true=>
   have h0:=h;obtain⟨cap,n,f,p,bJ,rfl⟩:=h0;obtain⟨t,ht⟩:=bJ.tok;have hk:=zlb bJ ht _ (by simp) h1;have hn:n+1<T.length:=by
    have:=bJ.Kt.last n t ht;have:=bJ.lt;rcases Rs (n+1) T.length with h|h
    .exact h
    .have:t.k<=1:=(bJ.Kt.last n t ht).2 (by omega);omega
   obtain⟨t2,p9⟩:∃t2,T[n+1]?=some t2:=⟨T[n+1]'hn,Iv hn⟩;have uJ:f=false:=by
    cases f with
    |false=>rfl
    |true=>have:=bJ.end_ rfl;omega
   subst uJ;have e1:NL true (MN T n false p)=(t2.s == [60]):=by
    have e2:((MN T n false p).rest.tail.headD ON)=t2:=by simp[MN,p9]
    rw[NL,h1,e2];rfl
   rw[e1];have hg:=bJ.Kt.len;have HR:=eu bJ;have Di:=eu p9;clear h1 e1 bJ ht p9 hk;go_enter func251,ntmps251;go_wp2_with fail;refine(Ox h ⟨#[59]⟩).mono ?_;rintro e w1⟨rfl,hb⟩;rw[show(MN T n false p).is (ByteArray.mk #[59]).data.toList=true from H1.o];have Hb:=eu hb;have e8:=HR.o.below hb;have c0:=e8.blk.cell 0;have c1:=e8.blk.cell 1;obtain⟨-,d1,-⟩:=e8.ME (n+1) t2 Di.o;simp at c0 c1;clear h hb e8;go_wp2_with fail
   go_quiet (fail)
   go_wp2;go_ret;exact⟨rfl,below_drewN Hb.o _⟩
end
section
open Go.RowKit
def Row (S:Nat->Prop) (w:World) (e:TypeId) (size:Nat) (v:Value) (n:Nat) (xs:List Value):Prop:=
 w.ownsRow 0 e size v n xs/\∀k,v.ownBlock=some k->S k
variable {S:Nat->Prop}{w w':World}{e:TypeId}{size n:Nat}{v:Value}{xs:List Value}{row:Option Nat}
theorem Row.gb(h:Row S w e size v n xs)(hg:w.grownBy w' row)(hr:∀k,row=some k->¬S k):Row S w' e size v n xs:=by
 refine⟨h.1.kept hg ?_,h.2⟩;cases hv:v.ownBlock with
 |none=>exact .inl rfl
 |some k=>exact .inr λe=>hr k e.symm (h.2 k hv)
variable {S':Nat->Prop}
theorem Row.mono(h:Row S w e size v n xs)(hs:∀k,k<w.heap.size->S k->S' k):Row S' w e size v n xs:=
 ⟨h.1,λk hk=>hs k (h.1.lt k hk).2 (h.2 k hk)⟩
variable {base:Nat}
theorem Ou{b':Nat}(h:w.ownsRow base e size v n xs)(hb:b'<=base):w.ownsRow b' e size v n xs:=by
 obtain⟨h1,h2⟩:=h;refine⟨h1,?_⟩;rcases h2 with h2|⟨g,cap,cur,hv,hg,r⟩
 .exact .inl h2
 .exact .inr ⟨g,cap,cur,hv,by omega,r⟩
theorem Row.Ye(h:w.ownsRow base e size v n xs):Row (λb=>base<=b) w e size v n xs:=
 ⟨Ou h (Kc _),λk hk=>(h.lt k hk).1⟩
abbrev lP:=@Row.Ye
def Ob:List Tok->List Value->List Value
 |t::l,v::vs=>[.string ⟨t.s.toArray⟩,.int .i64 t.at_,v]++Ob l vs
 |_,_=>[]
def OF:List (Nat × List Tok)->List Value->List Value->List Value
 |a::l,n::ns,v::vs=>[.int .i64 a.1,n,v]++OF l ns vs
 |_,_,_=>[]
theorem zf1:∀(l:List Tok)(vs:List Value)(t:Tok)(v:Value),l.length=vs.length->Ob (l++[t]) (vs++[v])=Ob l vs++[.string ⟨t.s.toArray⟩,.int .i64 t.at_,v]
 |[],[],_,_,_=>rfl
 |a::l,b::vs,t,v,h=>by simp only[MP,Ob];rw[zf1 l vs t v (by simpa using h)];simp
 |[],_::_,_,_,h=>by simp at h
 |_::_,[],_,_,h=>by simp at h
theorem zgK:∀(l:List (Nat × List Tok))(ns vs:List Value)(a:Nat × List Tok)(n v:Value),l.length=ns.length->l.length=vs.length->OF (l++[a]) (ns++[n]) (vs++[v])=OF l ns vs++[.int .i64 a.1,n,v]
 |[],[],[],_,_,_,_,_=>rfl
 |x::l,y::ns,z::vs,a,n,v,h1,h2=>by simp only[MP,OF];rw[zgK l ns vs a n v (by simpa using h1) (by simpa using h2)];simp
 |[],_::_,_,_,_,_,h,_=>by simp at h
 |[],[],_::_,_,_,_,_,h=>by simp at h
 |_::_,[],_,_,_,_,h,_=>by simp at h
 |_::_,_::_,[],_,_,_,_,h=>by simp at h
def qU (S:Nat->Prop) (w:World):Nat->Value->Ex->Prop
 |0,_,_=>False
 |n+1,v,e=>
  (e.kind=1/\v=.iface 217 (.agg #[.int .i64 e.n])) \/
  (e.kind=2/\v=.iface 215 (.agg #[.string ⟨e.tok.s.toArray⟩,.int .i64 e.tok.at_])) \/
  (e.kind=3/\v=.iface 219 (.agg #[.int .i64 e.tag,.int .i64 e.arity])) \/
  (e.kind=4/\∃sv bv b,e.kids=[b]/\v=.iface 226 (.agg #[sv,bv])/\Row S w 88 2 sv e.names.length (Ms e.names)/\qU S w n bv b) \/
  (e.kind=5/\∃v1 v2 e1 e2,e.kids=[e1,e2]/\v=.iface 163 (.agg #[v1,v2])/\qU S w n v1 e1/\qU S w n v2 e2) \/
  (e.kind=6/\∃v1 v2 e1 e2,e.kids=[e1,e2]/\v=.iface 166 (.agg #[.string ⟨e.tok.s.toArray⟩,v1,v2])/\qU S w n v1 e1/\qU S w n v2 e2) \/
  ((e.kind=7\/e.kind=8)/\∃sv bv b parts pvs,e.kids=b::parts/\v=.iface 178 (.agg #[.bool (e.kind == 8),sv,bv])/\parts.length=e.names.length/\pvs.length=e.names.length /\
   Row S w 312 3 sv e.names.length (Ob e.names pvs)/\(∀(i:Nat)(pv:Value)(p:Ex),pvs[i]?=some pv->parts[i]?=some p->qU S w n pv p)/\qU S w n bv b) \/
  (e.kind=9/\∃cv sv b ag nvs bvs,e.kids=b::ag/\v=.iface 173 (.agg #[cv,sv])/\ag.length=e.nA.length/\nvs.length=e.nA.length/\bvs.length=e.nA.length /\
   Row S w 240 3 sv e.nA.length (OF e.nA nvs bvs)/\(∀(i:Nat)(a:Nat × List Tok)(nv:Value),e.nA[i]?=some a->nvs[i]?=some nv->Row S w 88 2 nv a.2.length (Ms a.2)) /\
   (∀(i:Nat)(bv:Value)(p:Ex),bvs[i]?=some bv->ag[i]?=some p->qU S w n bv p)/\qU S w n cv b)
theorem qU.imp{S S':Nat->Prop}{w w':World}(af:∀e size v n xs,Row S w e size v n xs->Row S' w' e size v n xs):∀(n:Nat)(v:Value)(e:Ex),qU S w n v e->qU S' w' n v e
 |0,_,_,h=>h.elim
 |n+1,v,e,h=>by
  have ih:=qU.imp af n;rcases h with h|h|h|⟨hk,sv,bv,b,h1,h2,h3,h4⟩|⟨hk,v1,v2,e1,e2,h1,h2,h3,h4⟩|⟨hk,v1,v2,e1,e2,h1,h2,h3,h4⟩|⟨hk,sv,bv,b,parts,pvs,h1,h2,h3,h4,h5,h6,h7⟩|⟨hk,cv,sv,b,ag,nvs,bvs,h1,h2,h3,h4,h5,h6,h7,h8,h9⟩
  .exact .inl h
  .exact .inr (.inl h)
  .exact .inr (.inr (.inl h))
  .exact .inr (.inr (.inr (.inl ⟨hk,sv,bv,b,h1,h2,af _ _ _ _ _ h3,ih _ _ h4⟩)))
  .exact .inr (.inr (.inr (.inr (.inl ⟨hk,v1,v2,e1,e2,h1,h2,ih _ _ h3,ih _ _ h4⟩))))
  .exact .inr (.inr (.inr (.inr (.inr (.inl ⟨hk,v1,v2,e1,e2,h1,h2,ih _ _ h3,ih _ _ h4⟩)))))
  .exact .inr (.inr (.inr (.inr (.inr (.inr (.inl ⟨hk,sv,bv,b,parts,pvs,h1,h2,h3,h4,af _ _ _ _ _ h5,λi pv p a c=>ih _ _ (h6 i pv p a c),ih _ _ h7⟩))))))
  .exact .inr (.inr (.inr (.inr (.inr (.inr (.inr ⟨hk,cv,sv,b,ag,nvs,bvs,h1,h2,h3,h4,h5,af _ _ _ _ _ h6,λi a nv x y=>af _ _ _ _ _ (h7 i a nv x y),λi bv p a c=>ih _ _ (h8 i bv p a c),ih _ _ h9⟩))))))
abbrev Jm:=@qU.imp
theorem qU.succ{S:Nat->Prop}{w:World}:∀(n:Nat)(v:Value)(e:Ex),qU S w n v e->qU S w (n+1) v e
 |0,_,_,h=>h.elim
 |n+1,v,e,h=>by
  have ih:=qU.succ (S:=S) (w:=w) n;rcases h with h|h|h|⟨hk,sv,bv,b,h1,h2,h3,h4⟩|⟨hk,v1,v2,e1,e2,h1,h2,h3,h4⟩|⟨hk,v1,v2,e1,e2,h1,h2,h3,h4⟩|⟨hk,sv,bv,b,parts,pvs,h1,h2,h3,h4,h5,h6,h7⟩|⟨hk,cv,sv,b,ag,nvs,bvs,h1,h2,h3,h4,h5,h6,h7,h8,h9⟩
  .exact .inl h
  .exact .inr (.inl h)
  .exact .inr (.inr (.inl h))
  .exact .inr (.inr (.inr (.inl ⟨hk,sv,bv,b,h1,h2,h3,ih _ _ h4⟩)))
  .exact .inr (.inr (.inr (.inr (.inl ⟨hk,v1,v2,e1,e2,h1,h2,ih _ _ h3,ih _ _ h4⟩))))
  .exact .inr (.inr (.inr (.inr (.inr (.inl ⟨hk,v1,v2,e1,e2,h1,h2,ih _ _ h3,ih _ _ h4⟩)))))
  .exact .inr (.inr (.inr (.inr (.inr (.inr (.inl ⟨hk,sv,bv,b,parts,pvs,h1,h2,h3,h4,h5,λi pv p a c=>ih _ _ (h6 i pv p a c),ih _ _ h7⟩))))))
  .exact .inr (.inr (.inr (.inr (.inr (.inr (.inr ⟨hk,cv,sv,b,ag,nvs,bvs,h1,h2,h3,h4,h5,h6,h7,λi bv p a c=>ih _ _ (h8 i bv p a c),ih _ _ h9⟩))))))
variable {m:Nat}
theorem qU.le{e:Ex}(h:qU S w n v e)(hm:n<=m):qU S w m v e:=by
 induction hm with
 |refl=>exact h
 |step _ ih=>exact qU.succ _ _ _ ih
theorem qU.gb{S:Nat->Prop}{w w':World}{n:Nat}{v:Value}{e:Ex}(h:qU S w n v e){row:Option Nat}(hg:w.grownBy w' row)(hr:∀k,row=some k->¬S k):qU S w' n v e:=
 Jm (λ_ _ _ _ _ hR=>hR.gb hg hr) n v e h
theorem qU.mono{S S':Nat->Prop}{w:World}{n:Nat}{v:Value}{e:Ex}(h:qU S w n v e)(hs:∀k,k<w.heap.size->S k->S' k):qU S' w n v e:=
 Jm (λ_ _ _ _ _ hR=>hR.mono hs) n v e h
structure One (v:Value):Prop where
 shape:v=.nilIface\/∃t x,v=.iface t x
theorem One.cells{v:Value}(h:One v):v.cells=#[v]:=by rcases h.shape with rfl|⟨t,x,rfl⟩<;>rfl
theorem One.one(h:One v):v.oneCell'=true:=by rcases h.shape with rfl|⟨t,x,rfl⟩<;>rfl
theorem zxB:One .nilIface:=⟨.inl rfl⟩
theorem Ti(t:TypeId)(x:Value):One (.iface t x):=⟨.inr ⟨t,x,rfl⟩⟩
structure Nl (S:Nat->Prop) (w:World) (v:Value) (e:Ex) (st:St):Prop where
 one:One v
 rep:st.bad=none->∃n,qU S w n v e
theorem Nl.gb{S:Nat->Prop}{w w':World}{v:Value}{e:Ex}{st:St}(h:Nl S w v e st){row:Option Nat}(hg:w.grownBy w' row)(hr:∀k,row=some k->¬S k):Nl S w' v e st:=
 ⟨h.one,λhb=>by obtain⟨n,hn⟩:=h.rep hb;exact⟨n,hn.gb hg hr⟩⟩
theorem Nl.mono{S S':Nat->Prop}{w:World}{v:Value}{e:Ex}{st:St}(h:Nl S w v e st)(hs:∀k,k<w.heap.size->S k->S' k):Nl S' w v e st:=
 ⟨h.one,λhb=>by obtain⟨n,hn⟩:=h.rep hb;exact⟨n,hn.mono hs⟩⟩
theorem Nl.st{S:Nat->Prop}{w:World}{v:Value}{e:Ex}{st st':St}(h:Nl S w v e st)(hb:st'.bad=none->st.bad=none):Nl S w v e st':=⟨h.one,λh'=>h.rep (hb h')⟩
abbrev IB (w:World):Nat->Prop:=λb=>w.heap.size<=b
end
section
namespace Cp
abbrev Nm:=List UInt8
def M6 (l gone:List Nm):List Nm:=l.filter λx=>!gone.contains x
def union (l more:List Nm):List Nm:=l++M6 more l
def Mu (f:Ex->List Nm):List (Nat × List Tok)->List Ex->List Nm->List Nm
 |a::az,b::bs,l=>Mu f az bs (union l (M6 (f b) (texts a.2)))
 |_,_,l=>l
def M7 (f:Ex->List Nm):List Ex->List Nm->List Nm
 |p::ps,l=>M7 f ps (union l (f p))
 |[],l=>l
def free:Nat->Ex->List Nm
 |0,_=>[]
 |n+1,e=>
  if e.kind=2 then[e.tok.s]else
  if e.kind=4 then(match e.kids with|[b]=>M6 (free n b) (texts e.names)|_=>[])else
  if e.kind=5\/e.kind=6 then(match e.kids with|[a,b]=>union (free n a) (free n b)|_=>[])else
  if e.kind=7 then(match e.kids with|b::ps=>union (M7 (free n) ps []) (M6 (free n b) (texts e.names))|_=>[])else
  if e.kind=8 then(match e.kids with|b::ps=>union (M6 (M7 (free n) ps []) (texts e.names)) (M6 (free n b) (texts e.names))|_=>[])else
  if e.kind=9 then(match e.kids with|s::bs=>union (free n s) (Mu (free n) e.nA bs [])|_=>[])else[]
structure Bs where
 blocks:List (Nat × List Ds)
 kD:List Nm
 code:List Ds
def Bs.write (b:Bs) (i:Ds):Bs:={ b with code:=b.code++[i] }
def Bs.push (b:Bs) (i:Ds):Bs:={ b with code:=b.code++[i],kD:=b.kD++[[]] }
def Bs.drop (b:Bs) (c:Nat):Bs:={ b with kD:=b.kD.take (b.kD.length-c) }
def Ph (kD:List Nm) (x:Nm):Nat->Option Nat
 |0=>none
 |k+1=>if kD[k]?=some x then some k else Ph kD x k
def Nu (kD:List Nm) (x:Nm):Option Nat:=Ph kD x kD.length
def Il (kD:List Nm) (names:List Nm):List Nm:=names.filter λx=>(Nu kD x).isSome
def Bs.use (fns:List Nm) (b:Bs) (x:Nm):Bs:=
 match Nu b.kD x with
 |some i=>b.push (.push i)
 |none=>b.push (.PM (fns.idxOf x))
def Bs.J7 (fns:List Nm) (b:Bs) (names:List Nm):Bs:=names.reverse.foldl (Bs.use fns) b
def Bs.NP (b:Bs) (kD:List Nm) (wr:Bs->Bs):Bs × Nat:=
 let q:=wr ⟨b.blocks,kD,[]⟩
 ({ b with blocks:=q.blocks++[(kD.length,q.code)] },q.blocks.length)
def Mp (wk:Ex->Nat->Bs->Bs) (fr:Ex->List Nm) (b:Bs) (e:Ex):Bs × Nat × List Nm:=
 let names:=Il b.kD (fr e)
 let r:=if e.kind=4 then(match e.kids with|[d]=>b.NP (names++texts e.names).reverse (wk d 0)|_=>(b,0))
  else if e.kind=3 then b.NP (List.replicate e.arity []) (λq=>(q.write (.pack e.tag e.arity)).write .enter)
  else b.NP names.reverse (wk e 0)
 (r.1,r.2,names)
def Mf (wk:Ex->Nat->Bs->Bs) (fr:Ex->List Nm) (fns:List Nm) (b:Bs) (e:Ex):Bs:=
 if e.kind=2 then b.use fns e.tok.s else
 if e.kind=1 then b.push (.num e.n)else
 if e.kind=3/\e.arity=0 then b.push (.pack e.tag 0)else
 let c:=Mp wk fr b e
 ((c.1.J7 fns c.2.2).drop c.2.2.length).push (.close c.2.1 c.2.2.length)
def Bs.ends (b:Bs) (c:Nat) (last:Ds):Bs:=(b.write (.NG c)).write last
def spread:Nat->Ex->Ex × List Ex
 |0,e=>(e,[])
 |n+1,e=>
  match e.kids with
  |[f,a]=>if f.kind=5 then((spread n f).1,(spread n f).2++[a])else(f,[a])
  |_=>(e,[])
def armsOf (wk:Ex->Nat->Bs->Bs) (names:List Nm):List (Nat × List Tok)->List Ex->Bs->List (Nat × Nat × Nat)->Bs × List (Nat × Nat × Nat)
 |a::az,d::ds,b,l=>
  let r:=b.NP (texts a.2++names).reverse (wk d 0)
  armsOf wk names az ds r.1 (l++[(a.1,a.2.length,r.2)])
 |_,_,b,l=>(b,l)
def makeAll (wk:Ex->Nat->Bs->Bs) (fr:Ex->List Nm):List Ex->Bs->List (List Nm)->Bs × List (List Nm)
 |p::ps,b,l=>
  let c:=Mp wk fr b p
  makeAll wk fr ps (c.1.write (.hold c.2.1 c.2.2.length)) (l++[c.2.2])
 |[],b,l=>(b,l)
def Od (fns:List Nm):Nat->List (List Nm)->Bs->Bs
 |i,names::l,b=>Od fns (i+1) l (((b.J7 fns names).drop names.length).write (.fill i names.length))
 |_,[],b=>b
def Qb (wk:Ex->Nat->Bs->Bs) (fr:Ex->List Nm) (fns:List Nm) (e:Ex) (b:Bs):Bs:=
 match e.kids with
 |d::ps=>
  if e.kind=8 then
   let r:=makeAll wk fr ps { b with kD:=b.kD++texts e.names } []
   wk d 0 (Od fns b.kD.length r.2 r.1)
  else
   let b1:=ps.foldl (Mf wk fr fns) b
   wk d 0 { b1 with kD:=Go.splice b1.kD b.kD.length (texts e.names) }
 |[]=>b
def work (fr:Ex->List Nm) (fns:List Nm):Nat->Ex->Nat->Bs->Bs
 |0,_,_,b=>b
 |n+1,e,below,b=>
  if e.kind=5 then
   let s:=spread (n+1) e
   let b1:=s.2.reverse.foldl (Mf (work fr fns n) fr fns) b
   work fr fns n s.1 (below+s.2.length+1) (b1.push (.N6 s.2.length))
  else if e.kind=6 then
   match e.kids with
   |[l,r]=>
    let names:=Il b.kD (fr r)
    let c:=b.NP ([]::names).reverse λq=>
     let d:=((q.write .PJ).push (.push (q.kD.length-1))).NP [[],[]] λz=>(z.write (.comp ⟨e.tok.s.toArray⟩)).write .enter
     work fr fns n r 2 (d.1.push (.wait d.2))
    work fr fns n l (below+names.length+1) ((c.1.J7 fns names).push (.wait c.2))
   |_=>b
  else if e.kind=9 then
   match e.kids with
   |s::ds=>
    let names:=Il b.kD (Mu fr e.nA ds [])
    let c:=b.NP ([]::names).reverse λq=>
     let a:=armsOf (work fr fns n) names e.nA ds q []
     a.1.write (.choose a.2)
    work fr fns n s (below+names.length+1) ((c.1.J7 fns names).push (.wait c.2))
   |_=>b
  else if e.kind=7\/e.kind=8 then
   if below=0 then Qb (work fr fns n) fr fns e b
   else
    let names:=Il b.kD (fr e)
    let c:=(b.J7 fns names).NP names.reverse (Qb (work fr fns n) fr fns e)
    c.1.ends (below+names.length) (.jump c.2)
  else(Mf (work fr fns n) fr fns b e).ends (below+1) .enter
def lines (fr:Ex->List Nm) (fns:List Nm) (n:Nat):Nat->List By->List (Nat × List Ds)->List (Nat × List Ds)
 |i,f::l,bl=>
  let kD:=(texts f.params).reverse
  let q:=work fr fns n f.e 0 ⟨bl,kD,[]⟩
  lines fr fns n (i+1) l (q.blocks.set i (kD.length,q.code))
 |_,[],bl=>bl
def program (n:Nat) (l:List By):List (Nat × List Ds):=lines (free n) (l.map λf=>f.name.s) n 0 l (List.replicate l.length (0,[]))
end Cp
end
section
open Go.RowKit
attribute [local go_sem] zcZ zc0 zc1
theorem MI(x:List UInt8)(st:St):(Th.want x st).bad=none->st.bad=none:=by
 intro h;unfold Th.want at h;split at h
 .simpa[St.qM]using h
 .unfold St.fail at h;split at h
  .simp at h
  .exact h
theorem WZ(lo hi:Nat)(st:St):(Th.Kv lo hi st).2.bad=none->st.bad=none:=by
 intro h;unfold Th.Kv at h;split at h
 .simpa[St.qM]using h
 .simp only at h;unfold St.fail at h;split at h
  .simp at h
  .exact h
def Reads (w:World) (r tb:Nat) (T:List Tok) (e:Ex) (st':St) (en:Ending) (w':World):Prop:=
 ∃v,en=.returned v/\Nl (IB w) w' v e st'/\RS w' r tb T st'/\w.grownBy w' (some r)
variable {w:World}{r tb:Nat}{T:List Tok}{st:St}
theorem ztB(h:RS w r tb T st):
  Calls prog 290 #[.pointer (some ⟨r,0,none⟩)] w λen w'=>Reads w r tb T (PN st).1 (PN st).2 en w':=by
 have bd:=h.lt;have cu:=h.P0;go_enter func290,ntmps290;go_wp2_with fail;refine(zuF h).mono ?_;rintro e w1⟨rfl,aW,bw⟩;generalize ha:Th.Kv 1 99 st=a at aW|-;have Ha:=eu ha;have gF:=eu (aW.alloc (.cells #[.int .i64 a.1,.int .i64 0] 219));have lW:=eu bw;have hz:=bw.size;have B0:=eu (gH w1 [.int .i64 a.1,.int .i64 0] 219);clear h ha aW bw;go_wp2_with fail;refine(Qi gF.o ⟨#[44]⟩).mono ?_;rintro e w2⟨rfl,aI,aF⟩;have B1:=eu (B0.o.grown aF (by simp;omega));have ix:=eu aF;clear aF;go_wp2_with fail;refine(zgr aI 0 9 (by omega)).mono ?_;rintro e w3⟨rfl,bP,aS⟩;clear aI;generalize hb:Th.Kv 0 9 _=b at bP|-;have B2:=B1.o.grown aS (by simp;omega);have c1:=B2.cell 1;have f1:=B2.frozen 1;simp at c1;have gA:=eu B2;have Hb:=eu hb;have ej:=eu aS;have fG:=eu (bP.set w1.heap.size 1 (.int .i64 b.1) (by omega) (by omega));clear bP aS hb B2;go_wp2_with fail;refine(Qi fG.o ⟨#[125]⟩).mono ?_;rintro e w4⟨rfl,bV,bM⟩;have B3:=(gA.o.set 1 (.int .i64 b.1)).grown bM (by simp;omega);have d0:=B3.cell 0;have d1:=B3.cell 1;simp at d0 d1;have gh:=eu bV;have gN:=eu bM;clear bV bM B3 c1 f1;go_wp2;go_ret;have ea:PN st=(Oe a.1 b.1,Th.want [125] b.2):=by unfold PN;simp only[Ha.o];rw[show Th.Kv 0 9 (Th.want [44] a.2)=b from Hb.o]
 rw[ea];have hG:w.grownBy w4 (some r):=qN (Nv (qN (qN (qN lW.o (IS _ _ _)) ix.o) ej.o) _ _ hz) gN.o;exact⟨_,rfl,⟨Ti _ _,λ_=>⟨1,.inr (.inr (.inl ⟨rfl,rfl⟩))⟩⟩,gh.o,hG⟩
def QW (ex:Rd):Prop:=∀(c:Bool)(st:St)(q:Ex × St)(w:World)(r tb:Nat)(T:List Tok),ex c st=some q->RS w r tb T st ->
 Calls prog 118 #[.pointer (some ⟨r,0,none⟩),.bool c] w λen w'=>Reads w r tb T q.1 q.2 en w'
theorem Tu{x:List UInt8}(h:st.is x=true):st.bad=none:=by
 obtain⟨rest,bad⟩:=st;cases bad with
 |some p=>simp[St.is]at h
 |none=>rfl
theorem zur(h:r<w.heap.size):∀k,some r=some k->¬IB w k:=by intro k e;simp at e;subst e;simp only[IB];omega
variable {ex:Rd}{q:Ex × St}
theorem zsA(hx:QW ex)(hq:NZ ex st=some q)(h:RS w r tb T st):
  Calls prog 285 #[.pointer (some ⟨r,0,none⟩)] w λen w'=>Reads w r tb T q.1 q.2 en w':=by
 have bd:=h.lt;have cu:=h.P0;obtain⟨t,tk,ti,th,tm,tc⟩:=UM h;have aG:=tk 2 (by omega);have dG:=tk 3 (by omega);have HH:=eu h;have HQ:=eu hq;clear hq;cases h2:st.kind 2
 .have wJ:((t.k:Int) == 2)=false:=by rw[aG]at h2;simp at h2|-;omega
  have H2:=eu h2;clear h2 aG;cases h3:st.kind 3
  .have uA:((t.k:Int) == 3)=false:=by rw[dG]at h3;simp at h3|-;omega
   have H3:=eu h3;clear h3 dG;have e0:Hid (NZ ex st=if st.is [123]then some (PN st.qM)else if st.is [40]then(ex false st.qM).bind λr=>some (r.1,Th.want [41] r.2)else some (Mw,st.fail)):=eu (by rw[NZ,H2.o,H3.o];simp);clear tk ti th tm;go_enter func285,ntmps285;go_wp2_with fail;refine tc.mono ?_;rintro e w1⟨rfl,hb⟩;have gF:=eu (h.below hb);have Hb:=eu hb;clear tc h hb;go_wp2_with fail;obtain⟨t1,tQ,-,-,-,tP⟩:=UM gF.o;have wM:((t1.k:Int) == 3)=false:=by have:=tQ 3 (by omega);rw[H3.o]at this;simp at this|-;omega
   clear tQ;refine tP.mono ?_;rintro e w2⟨rfl,aw⟩;have eS:=eu (gF.o.below aw);have cO:=eu (Hb.o.trans (aw.mono Hb.o.size));clear tP aw;go_wp2_with fail;refine(RF eS.o ⟨#[123]⟩).mono ?_;rintro e w3⟨rfl,bP,aS⟩;have ej:=eu (qN (Bj _ cO.o) aS);clear aS;cases h4:st.is [123]
   .rw[show st.is (ByteArray.mk #[123]).data.toList=false from h4]at bP;have fG:Hid (RS w3 r tb T st):=eu (by simpa using bP);have H4:=eu h4;clear bP h4;go_wp2_with fail;refine(RF fG.o ⟨#[40]⟩).mono ?_;rintro e w4⟨rfl,bV,bM⟩;have gN:=eu (qN ej.o bM);clear bM;cases h5:st.is [40]
    .rw[show st.is (ByteArray.mk #[40]).data.toList=false from h5]at bV;have gh:Hid (RS w4 r tb T st):=eu (by simpa using bV);have e1:=HQ.o;rw[e0.o,H4.o,h5]at e1;simp at e1;subst e1;clear bV h5;go_wp2_with fail;refine(Vs gh.o).mono ?_;rintro e w5⟨rfl,fC,cH⟩;have oF:=eu fC;have vY:=eu (qN gN.o cH);clear fC cH;go_wp2;go_ret;refine⟨_,rfl,⟨zxB,λhb=>?_⟩,oF.o,vY.o⟩;unfold St.fail at hb;split at hb<;>simp_all
    .rw[show st.is (ByteArray.mk #[40]).data.toList=true from h5]at bV;have gh:Hid (RS w4 r tb T st.qM):=eu (by simpa using bV);have e1:=HQ.o;rw[e0.o,H4.o,h5]at e1;simp only[Ps,nt,kP,JM]at e1;obtain⟨q1,cF,bC⟩:=e1;simp only[IA]at bC;subst bC;have Dh:=eu cF;clear bV h5 cF;go_wp2_with fail;refine(hx _ _ _ _ _ _ _ Dh.o gh.o).mono ?_;rintro en w5⟨v,rfl,aq,fC,cH⟩;have cj:=eu aq;have hc:=aq.one.cells;have vY:=eu (qN gN.o cH);clear aq cH;go_wp2_with fail;refine(Qi fC ⟨#[41]⟩).mono ?_;rintro e w6⟨rfl,jL,fk⟩;have qL:=eu jL;have zh:=eu fk;clear fC jL fk;go_wp2;go_ret;have hz:=gN.o.size;refine⟨v,rfl,?_,qL.o,qN vY.o zh.o⟩;refine Nl.st ?_ (MI [41] q1.2);exact(cj.o.mono (λk _ hk=>yM hz hk)).gb zh.o (zur bd)
   .rw[show st.is (ByteArray.mk #[123]).data.toList=true from h4]at bP;have fG:Hid (RS w3 r tb T st.qM):=eu (by simpa using bP);have e1:=HQ.o;rw[e0.o,h4]at e1;simp only[kP,IA]at e1;subst e1;clear bP h4;go_wp2_with fail;refine(ztB fG.o).mono ?_;rintro en w4⟨v,rfl,aq,bV,bM⟩;have cj:=eu aq;have hc:=aq.one.cells;have gh:=eu bV;have gN:=eu bM;clear aq bM bV;go_wp2;go_ret;exact⟨v,rfl,cj.o.mono (λk _ hk=>yM ej.o.size hk),gh.o,qN ej.o gN.o⟩
  .have uA:((t.k:Int) == 3)=true:=by rw[dG]at h3;simp at h3|-;omega
   have H3:=eu h3;have jd:st.hd=t:=th (zvK h3);have sB:t.k=3:=by rw[dG]at h3;simpa using h3
   have mh:=h.Kt.num t tm sB;have hv:=zoS t.s mh.1 mh.2;have ep:Hid (Th.Kv 0 2147483647 st=(Th.val st.hd.s,st.qM)):=eu (by rw[Th.Kv,h3,jd];simp;omega);have e1:NZ ex st=some (mkNum (Th.val st.hd.s),st.qM):=by rw[NZ,H2.o,h3];simp
   have e2:=HQ.o;rw[e1]at e2;simp only[IA]at e2;subst e2;clear h3 dG jd sB mh hv e1 tk ti th tm;go_enter func285,ntmps285;go_wp2_with fail;refine tc.mono ?_;rintro e w1⟨rfl,hb⟩;have gF:=eu (h.below hb);have Hb:=eu hb;clear tc h hb;go_wp2_with fail;obtain⟨t1,tQ,-,-,-,tP⟩:=UM gF.o;have wM:((t1.k:Int) == 3)=true:=by have:=tQ 3 (by omega);rw[H3.o]at this;simp at this|-;omega
   clear tQ;refine tP.mono ?_;rintro e w2⟨rfl,aw⟩;have eS:=eu (gF.o.below aw);have cO:=eu (Hb.o.trans (aw.mono Hb.o.size));clear tP aw;go_wp2_with fail;refine(zgr eS.o 0 2147483647 (by omega)).mono ?_;rintro e w3⟨rfl,bP,aS⟩;rw[ep.o]at bP|-;have fG:=eu bP;have ej:=eu (qN (Bj _ cO.o) aS);clear bP aS;go_wp2;go_ret;exact⟨_,rfl,⟨Ti _ _,λ_=>⟨1,.inl ⟨rfl,rfl⟩⟩⟩,fG.o,ej.o⟩
 .have wJ:((t.k:Int) == 2)=true:=by rw[aG]at h2;simp at h2|-;omega
  have H2:=eu h2;have ep:Hid (Th.IG st=(st.hd,st.qM)):=eu (by simp[Th.IG,h2]);have e1:NZ ex st=some (NY st.hd,st.qM):=by rw[NZ,h2];simp
  have e2:=HQ.o;rw[e1]at e2;simp only[IA]at e2;subst e2;clear h2 aG dG e1 tk ti th tm;go_enter func285,ntmps285;go_wp2_with fail;refine tc.mono ?_;rintro e w1⟨rfl,hb⟩;have gF:=eu (h.below hb);have Hb:=eu hb;clear tc h hb;go_wp2_with fail;refine(Xk gF.o).mono ?_;rintro e w3⟨rfl,bP,aS⟩;rw[ep.o]at bP|-;have fG:=eu bP;have ej:=eu (qN (Bj _ Hb.o) aS);clear bP aS;go_wp2;go_ret;exact⟨_,rfl,⟨Ti _ _,λ_=>⟨1,.inr (.inl ⟨rfl,rfl⟩)⟩⟩,fG.o,ej.o⟩
theorem zhF(h:NN st=true):st.bad=none:=by
 obtain⟨rest,bad⟩:=st;cases bad with
 |some p=>simp[NN,St.kind,St.is]at h
 |none=>rfl
variable {S:Nat->Prop}{n m:Nat}
theorem zv3{v1 v2:Value}{e1 e2:Ex}(h1:qU S w n v1 e1)(h2:qU S w m v2 e2):qU S w (n+m+1) (.iface 163 (.agg #[v1,v2])) (M5 e1 e2):=
 .inr (.inr (.inr (.inr (.inl ⟨rfl,v1,v2,e1,e2,rfl,rfl,h1.le (by omega),h2.le (by omega)⟩))))
theorem ztV{v1 v2:Value}{e1 e2:Ex}(t:Tok)(h1:qU S w n v1 e1)(h2:qU S w m v2 e2):qU S w (n+m+1) (.iface 166 (.agg #[.string ⟨t.s.toArray⟩,v1,v2])) (JF t e1 e2):=
 .inr (.inr (.inr (.inr (.inr (.inl ⟨rfl,v1,v2,e1,e2,rfl,rfl,h1.le (by omega),h2.le (by omega)⟩)))))
variable {k:Nat}
theorem zxd(hx:QW ex)(hq:OZ ex k st=some q)(h:RS w r tb T st):
  Calls prog 281 #[.pointer (some ⟨r,0,none⟩)] w λen w'=>Reads w r tb T q.1 q.2 en w':=by
 have bd:=h.lt;have cu:=h.P0;unfold OZ at hq;simp only[JM]at hq;obtain⟨q1,cF,bC⟩:=hq;have HQ:=eu bC;clear bC;go_enter func281,ntmps281;go_wp2_with fail;refine(zsA hx cF h).mono ?_;rintro en w1⟨v,rfl,aq,aW,bw⟩;have cj:=eu aq;have gF:=eu aW;have lW:=eu bw;have hc:=aq.one.cells;clear aq aW bw h cF;go_wp2_with fail
 go_loopg [3] k (λg v wr=>∃e1 s1,Nl (IB w) wr v e1 s1/\RS wr r tb T s1/\w.grownBy wr (some r)/\Of ex g e1 s1=some q)
 case atStart=>exact⟨q1.1,q1.2,cj.o,gF.o,lW.o,HQ.o⟩
 case round=>
  obtain⟨e1,s1,aq,hs,hg,hp⟩:=hrel;have xm:=aq.one.cells;have iz:=eu aq;have Hs:=eu hs;have Hg:=eu hg;clear aq hg hc;cases gk with
  |zero=>simp[Of]at hp
  |succ g=>
   rw[Of]at hp;cases hb:NN s1
   .rw[hb]at hp;simp only[Ps,nt,IA]at hp;subst hp;have Hb:=eu hb;clear hb;go_wp2_with fail;refine(zeI hs).mono ?_;rintro e w2⟨rfl,aw⟩;rw[Hb.o];have cO:=eu aw;clear hs aw;go_wp2;go_ret;exact⟨u3,rfl,iz.o.gb (Bj none cO.o) (by simp),Hs.o.below cO.o,qN Hg.o (Bj _ cO.o)⟩
   .rw[hb]at hp;simp only[kP,JM]at hp;obtain⟨q2,bC,fB⟩:=hp;have mE:=eu fB;have jR:=eu bC;have Hb:=eu hb;clear hb fB bC;go_wp2_with fail;refine(zeI hs).mono ?_;rintro e w2⟨rfl,aw⟩;rw[Hb.o];have aI:=hs.below aw;have cO:=eu aw;clear hs aw;go_wp2_with fail;refine(zsA hx jR.o aI).mono ?_;rintro en w3⟨v2,rfl,cr,bP,aS⟩;have jb:=cr.one;have nU:=iz.o.one;have fF:=eu cr;have fG:=eu bP;have ej:=eu aS;clear aI cr bP aS xm;rcases nU.shape with rfl|⟨t3,x3,rfl⟩<;>rcases jb.shape with rfl|⟨t2,x2,rfl⟩
    all_goals
     clear jb nU;go_wp2
     go_roundg g
     case measure=>omega
     case rel=>have hz:=(qN Hg.o (Bj (some r) cO.o)).size;refine⟨M5 e1 q2.1,q2.2,⟨Ti _ _,λaQ=>?_⟩,fG.o,qN (qN Hg.o (Bj _ cO.o)) ej.o,mE.o⟩;obtain⟨n1,cR⟩:=((iz.o.gb (Bj none cO.o) (by simp)).gb ej.o (zur bd)).rep (zhF Hb.o);obtain⟨n2,eY⟩:=(fF.o.mono (S':=IB w) (λk _ hk=>yM hz hk)).rep aQ;exact⟨_,zv3 cR eY⟩
def Tw (f:Nat) (sub:St->Option (Ex × St)):Prop:=∀(st:St)(q:Ex × St)(w:World)(r tb:Nat)(T:List Tok),sub st=some q->RS w r tb T st ->
 Calls prog f #[.pointer (some ⟨r,0,none⟩)] w λen w'=>Reads w r tb T q.1 q.2 en w'
variable {sub:St->Option (Ex × St)}{v:Value}
theorem Vc{F:Nat}(hF:F=281\/F=273\/F=252)(hx:Tw F sub){e:Ex}{B:Nat->Prop}(hB:¬B r)(aH:st.hd.s≠[])(hi:st.bad=none)(hv:Nl B w v e st)(hq:sub st.qM=some q)(h:RS w r tb T st):
  Calls prog 253 #[.pointer (some ⟨r,0,none⟩),v,.func (.func F) #[.pointer (some ⟨r,0,none⟩)] #[]] w λen w'=>∃v2,en=.returned v2/\Nl (λb=>B b\/IB w b) w' v2 (JF st.hd e q.1) q.2/\RS w' r tb T q.2/\w.grownBy w' (some r):=by
 have bd:=h.lt;obtain⟨t,tk,ti,th,tm,tc⟩:=UM h;have jd:=th hi;rw[jd]at aH|-;have Hw:Hid (Th.want t.s st=st.qM):=eu (by rw[Th.want,ti t.s aH];simp);have qK:=eu aH;have HH:=eu h;have HV:=eu hv;have HQ:=eu hq;have Hi:=eu hi;have HB:=eu hB;have ja:=hv.one;clear tk ti th tm jd aH hv hq hi hB;rcases hF with rfl|rfl|rfl<;>rcases ja.shape with rfl|⟨t1,x1,rfl⟩
 all_goals
  clear ja;go_enter func253,ntmps253;go_wp2_with fail;refine tc.mono ?_;rintro en w1⟨rfl,hb⟩;have aW:=h.below hb;have Hb:=eu hb;clear tc hb;go_wp2_with fail;refine(Qi aW ⟨t.s.toArray⟩ (by simpa using qK.o)).mono ?_;rintro en w2⟨rfl,aI,aF⟩;rw[show Th.want (ByteArray.mk t.s.toArray).data.toList st=st.qM from Hw.o]at aI;have eS:=eu aI;have ix:=eu (qN (Bj _ Hb.o) aF);clear aW aI aF h;go_wp2_with fail;refine(hx _ _ _ _ _ _ HQ.o eS.o).mono ?_;rintro en w3⟨v2,rfl,cr,bP,aS⟩;have fF:=eu cr;have fG:=eu bP;have ej:=eu (qN ix.o aS);have jb:=cr.one;clear cr bP aS;rcases jb.shape with rfl|⟨t2,x2,rfl⟩
  all_goals
   clear jb;go_wp2;go_ret;refine⟨_,rfl,⟨Ti _ _,λaQ=>?_⟩,fG.o,ej.o⟩;obtain⟨n1,cR⟩:=(HV.o.gb ej.o (λk hk=>by cases hk;exact HB.o)).rep Hi.o;obtain⟨n2,eY⟩:=fF.o.rep aQ;exact⟨_,ztV t (cR.mono (λk _ hk=>.inl hk)) (eY.mono (λk _ hk=>.inr (yM ix.o.size hk)))⟩
end
section
open Go.RowKit
variable {st:St}
theorem VM{x:List UInt8}(h:st.is x=true):st.hd.s=x:=by simp[St.is]at h;exact h.2
variable {sub:St->Option (Ex × St)}
theorem zrN(hx:Tw 281 sub)(k:Nat):Tw 273 (λst=>(sub st).bind λr=>Nk sub [42] [47] k r.1 r.2):=by
 intro st q w r tb T hq h;have bd:=h.lt;have cu:=h.P0;simp only[JM]at hq;obtain⟨q1,cF,bC⟩:=hq;have HQ:=eu bC;clear bC;go_enter func273,ntmps273;go_wp2_with fail;refine(hx _ _ _ _ _ _ cF h).mono ?_;rintro en w1⟨v,rfl,aq,aW,bw⟩;have cj:=eu aq;have gF:=eu aW;have lW:=eu bw;have hc:=aq.one.cells;clear aq aW bw h cF;go_wp2_with fail
 go_loopg [3] k (λg v wr=>∃e1 s1,Nl (IB w) wr v e1 s1/\RS wr r tb T s1/\w.grownBy wr (some r)/\Nk sub [42] [47] g e1 s1=some q)
 case atStart=>exact⟨q1.1,q1.2,cj.o,gF.o,lW.o,HQ.o⟩
 case round=>
  obtain⟨e1,s1,aq,hs,hg,hp⟩:=hrel;have iz:=eu aq;have Hs:=eu hs;have Hg:=eu hg;have hz:=hg.size;clear aq hg hc;cases gk with
  |zero=>simp[Nk]at hp
  |succ g=>
   rw[Nk]at hp;cases ha:s1.is [42]
   .have Ha:=eu ha;cases hb:s1.is [47]
    .rw[ha,hb]at hp;simp only[T8,Ps,nt,IA]at hp;subst hp;have Hb:=eu hb;have xm:=iz.o.one.cells;clear ha hb;go_wp2_with fail;refine(Ox hs ⟨#[42]⟩).mono ?_;rintro en w2⟨rfl,aw⟩;rw[show s1.is (ByteArray.mk #[42]).data.toList=false from Ha.o];have aI:=hs.below aw;have cO:=eu aw;clear hs aw;go_wp2_with fail;refine(Ox aI ⟨#[47]⟩).mono ?_;rintro en w3⟨rfl,bD⟩;rw[show s1.is (ByteArray.mk #[47]).data.toList=false from Hb.o];have cG:=eu (cO.o.trans (bD.mono cO.o.size));clear aI bD;go_wp2;go_ret;exact⟨u3,rfl,iz.o.gb (Bj none cG.o) (by simp),Hs.o.below cG.o,qN Hg.o (Bj _ cG.o)⟩
    .rw[ha,hb]at hp;simp only[Ua,kP,JM]at hp;obtain⟨q2,bC,fB⟩:=hp;have mE:=eu fB;have jR:=eu bC;have Hb:=eu hb;clear ha hb fB bC;go_wp2_with fail;refine(Ox hs ⟨#[42]⟩).mono ?_;rintro en w2⟨rfl,aw⟩;rw[show s1.is (ByteArray.mk #[42]).data.toList=false from Ha.o];have aI:=hs.below aw;have cO:=eu aw;clear hs aw;go_wp2_with fail;refine(Ox aI ⟨#[47]⟩).mono ?_;rintro en w3⟨rfl,bD⟩;rw[show s1.is (ByteArray.mk #[47]).data.toList=true from Hb.o];have cG:=eu (cO.o.trans (bD.mono cO.o.size));clear aI bD;go_wp2_with fail;refine(Vc (by simp) hx (B:=IB w) (λhr=>by simp only[IB]at hr;omega) (by rw[VM Hb.o];simp) (Tu Hb.o) (iz.o.gb (Bj none cG.o) (by simp)) jR.o (Hs.o.below cG.o)).mono ?_;rintro en w4⟨v4,rfl,aZ,bV,bM⟩;have dv:=eu aZ;have gh:=eu bV;have gN:=eu bM;have jj:=aZ.one.cells;clear aZ bV bM;go_wp2
     go_roundg g
     case measure=>omega
     case rel=>
      refine⟨_,q2.2,dv.o.mono (λb _ hb=>?_),gh.o,qN (qN Hg.o (Bj _ cG.o)) gN.o,mE.o⟩;rcases hb with hb|hb
      .exact hb
      .have:=cG.o.size;simp only[IB]at hb|-;omega
   .have Ha:=eu ha;rw[ha]at hp;simp only[Ub,kP,JM]at hp;obtain⟨q2,bC,fB⟩:=hp;have mE:=eu fB;have jR:=eu bC;clear ha fB bC;go_wp2_with fail;refine(Ox hs ⟨#[42]⟩).mono ?_;rintro en w2⟨rfl,bD⟩;rw[show s1.is (ByteArray.mk #[42]).data.toList=true from Ha.o];have cG:=eu bD;clear hs bD;go_wp2_with fail;refine(Vc (by simp) hx (B:=IB w) (λhr=>by simp only[IB]at hr;omega) (by rw[VM Ha.o];simp) (Tu Ha.o) (iz.o.gb (Bj none cG.o) (by simp)) jR.o (Hs.o.below cG.o)).mono ?_;rintro en w4⟨v4,rfl,aZ,bV,bM⟩;have dv:=eu aZ;have gh:=eu bV;have gN:=eu bM;have jj:=aZ.one.cells;clear aZ bV bM;go_wp2
    go_roundg g
    case measure=>omega
    case rel=>
     refine⟨_,q2.2,dv.o.mono (λb _ hb=>?_),gh.o,qN (qN Hg.o (Bj _ cG.o)) gN.o,mE.o⟩;rcases hb with hb|hb
     .exact hb
     .have:=cG.o.size;simp only[IB]at hb|-;omega
theorem zyC(hx:Tw 273 sub)(k:Nat):Tw 252 (λst=>(sub st).bind λr=>Nk sub [43] [45] k r.1 r.2):=by
 intro st q w r tb T hq h;have bd:=h.lt;have cu:=h.P0;simp only[JM]at hq;obtain⟨q1,cF,bC⟩:=hq;have HQ:=eu bC;clear bC;go_enter func252,ntmps252;go_wp2_with fail;refine(hx _ _ _ _ _ _ cF h).mono ?_;rintro en w1⟨v,rfl,aq,aW,bw⟩;have cj:=eu aq;have gF:=eu aW;have lW:=eu bw;have hc:=aq.one.cells;clear aq aW bw h cF;go_wp2_with fail
 go_loopg [3] k (λg v wr=>∃e1 s1,Nl (IB w) wr v e1 s1/\RS wr r tb T s1/\w.grownBy wr (some r)/\Nk sub [43] [45] g e1 s1=some q)
 case atStart=>exact⟨q1.1,q1.2,cj.o,gF.o,lW.o,HQ.o⟩
 case round=>
  obtain⟨e1,s1,aq,hs,hg,hp⟩:=hrel;have iz:=eu aq;have Hs:=eu hs;have Hg:=eu hg;have hz:=hg.size;clear aq hg hc;cases gk with
  |zero=>simp[Nk]at hp
  |succ g=>
   rw[Nk]at hp;cases ha:s1.is [43]
   .have Ha:=eu ha;cases hb:s1.is [45]
    .rw[ha,hb]at hp;simp only[T8,Ps,nt,IA]at hp;subst hp;have Hb:=eu hb;have xm:=iz.o.one.cells;clear ha hb;go_wp2_with fail;refine(Ox hs ⟨#[43]⟩).mono ?_;rintro en w2⟨rfl,aw⟩;rw[show s1.is (ByteArray.mk #[43]).data.toList=false from Ha.o];have aI:=hs.below aw;have cO:=eu aw;clear hs aw;go_wp2_with fail;refine(Ox aI ⟨#[45]⟩).mono ?_;rintro en w3⟨rfl,bD⟩;rw[show s1.is (ByteArray.mk #[45]).data.toList=false from Hb.o];have cG:=eu (cO.o.trans (bD.mono cO.o.size));clear aI bD;go_wp2;go_ret;exact⟨u3,rfl,iz.o.gb (Bj none cG.o) (by simp),Hs.o.below cG.o,qN Hg.o (Bj _ cG.o)⟩
    .rw[ha,hb]at hp;simp only[Ua,kP,JM]at hp;obtain⟨q2,bC,fB⟩:=hp;have mE:=eu fB;have jR:=eu bC;have Hb:=eu hb;clear ha hb fB bC;go_wp2_with fail;refine(Ox hs ⟨#[43]⟩).mono ?_;rintro en w2⟨rfl,aw⟩;rw[show s1.is (ByteArray.mk #[43]).data.toList=false from Ha.o];have aI:=hs.below aw;have cO:=eu aw;clear hs aw;go_wp2_with fail;refine(Ox aI ⟨#[45]⟩).mono ?_;rintro en w3⟨rfl,bD⟩;rw[show s1.is (ByteArray.mk #[45]).data.toList=true from Hb.o];have cG:=eu (cO.o.trans (bD.mono cO.o.size));clear aI bD;go_wp2_with fail;refine(Vc (by simp) hx (B:=IB w) (λhr=>by simp only[IB]at hr;omega) (by rw[VM Hb.o];simp) (Tu Hb.o) (iz.o.gb (Bj none cG.o) (by simp)) jR.o (Hs.o.below cG.o)).mono ?_;rintro en w4⟨v4,rfl,aZ,bV,bM⟩;have dv:=eu aZ;have gh:=eu bV;have gN:=eu bM;have jj:=aZ.one.cells;clear aZ bV bM;go_wp2
     go_roundg g
     case measure=>omega
     case rel=>
      refine⟨_,q2.2,dv.o.mono (λb _ hb=>?_),gh.o,qN (qN Hg.o (Bj _ cG.o)) gN.o,mE.o⟩;rcases hb with hb|hb
      .exact hb
      .have:=cG.o.size;simp only[IB]at hb|-;omega
   .have Ha:=eu ha;rw[ha]at hp;simp only[Ub,kP,JM]at hp;obtain⟨q2,bC,fB⟩:=hp;have mE:=eu fB;have jR:=eu bC;clear ha fB bC;go_wp2_with fail;refine(Ox hs ⟨#[43]⟩).mono ?_;rintro en w2⟨rfl,bD⟩;rw[show s1.is (ByteArray.mk #[43]).data.toList=true from Ha.o];have cG:=eu bD;clear hs bD;go_wp2_with fail;refine(Vc (by simp) hx (B:=IB w) (λhr=>by simp only[IB]at hr;omega) (by rw[VM Ha.o];simp) (Tu Ha.o) (iz.o.gb (Bj none cG.o) (by simp)) jR.o (Hs.o.below cG.o)).mono ?_;rintro en w4⟨v4,rfl,aZ,bV,bM⟩;have dv:=eu aZ;have gh:=eu bV;have gN:=eu bM;have jj:=aZ.one.cells;clear aZ bV bM;go_wp2
    go_roundg g
    case measure=>omega
    case rel=>
     refine⟨_,q2.2,dv.o.mono (λb _ hb=>?_),gh.o,qN (qN Hg.o (Bj _ cG.o)) gN.o,mE.o⟩;rcases hb with hb|hb
     .exact hb
     .have:=cG.o.size;simp only[IB]at hb|-;omega
theorem zwr(hx:Tw 252 sub):Tw 196 (λst=>(sub st).bind λr=>
  if r.2.is [61,61]||r.2.is [60]then(sub r.2.qM).bind λq=>some (JF r.2.hd r.1 q.1,q.2)else some r):=by
 intro st q w r tb T hq h;have bd:=h.lt;have cu:=h.P0;simp only[JM]at hq;obtain⟨q1,cF,bC⟩:=hq;have HQ:=eu bC;clear bC;go_enter func196,ntmps196;go_wp2_with fail;refine(hx _ _ _ _ _ _ cF h).mono ?_;rintro en w1⟨v,rfl,aq,hs,hg⟩;have iz:=eu aq;have Hs:=eu hs;have Hg:=eu hg;have hc:=aq.one.cells;have hz:=hg.size;clear aq hg h cF;cases ha:q1.2.is [61,61]
 .have Ha:=eu ha;cases hb:q1.2.is [60]
  .have hp:=HQ.o;rw[ha,hb]at hp;simp only[T8,Ps,nt,IA]at hp;subst hp;have Hb:=eu hb;clear ha hb;go_wp2_with fail;refine(Ox hs ⟨#[61,61]⟩).mono ?_;rintro en w2⟨rfl,aw⟩;rw[show q1.2.is (ByteArray.mk #[61,61]).data.toList=false from Ha.o];have aI:=hs.below aw;have cO:=eu aw;clear hs aw;go_wp2_with fail;refine(Ox aI ⟨#[60]⟩).mono ?_;rintro en w3⟨rfl,bD⟩;rw[show q1.2.is (ByteArray.mk #[60]).data.toList=false from Hb.o];have cG:=eu (cO.o.trans (bD.mono cO.o.size));clear aI bD;go_wp2;go_ret;exact⟨v,rfl,iz.o.gb (Bj none cG.o) (by simp),Hs.o.below cG.o,qN Hg.o (Bj _ cG.o)⟩
  .have hp:=HQ.o;rw[ha,hb]at hp;simp only[Ua,kP,JM,IA]at hp;obtain⟨q2,bC,fB⟩:=hp;subst fB;have jR:=eu bC;have Hb:=eu hb;clear ha hb bC;go_wp2_with fail;refine(Ox hs ⟨#[61,61]⟩).mono ?_;rintro en w2⟨rfl,aw⟩;rw[show q1.2.is (ByteArray.mk #[61,61]).data.toList=false from Ha.o];have aI:=hs.below aw;have cO:=eu aw;clear hs aw;go_wp2_with fail;refine(Ox aI ⟨#[60]⟩).mono ?_;rintro en w3⟨rfl,bD⟩;rw[show q1.2.is (ByteArray.mk #[60]).data.toList=true from Hb.o];have cG:=eu (cO.o.trans (bD.mono cO.o.size));clear aI bD;go_wp2_with fail;refine(Vc (by simp) hx (B:=IB w) (λhr=>by simp only[IB]at hr;omega) (by rw[VM Hb.o];simp) (Tu Hb.o) (iz.o.gb (Bj none cG.o) (by simp)) jR.o (Hs.o.below cG.o)).mono ?_;rintro en w4⟨v4,rfl,aZ,bV,bM⟩;have dv:=eu aZ;have gh:=eu bV;have gN:=eu bM;have jj:=aZ.one.cells;clear aZ bV bM;go_wp2;go_ret;refine⟨v4,rfl,dv.o.mono (λb _ hb=>?_),gh.o,qN (qN Hg.o (Bj _ cG.o)) gN.o⟩;rcases hb with hb|hb
   .exact hb
   .have:=cG.o.size;simp only[IB]at hb|-;omega
 .have Ha:=eu ha;have hp:=HQ.o;rw[ha]at hp;simp only[Ub,kP,JM,IA]at hp;obtain⟨q2,bC,fB⟩:=hp;subst fB;have jR:=eu bC;clear ha bC;go_wp2_with fail;refine(Ox hs ⟨#[61,61]⟩).mono ?_;rintro en w2⟨rfl,bD⟩;rw[show q1.2.is (ByteArray.mk #[61,61]).data.toList=true from Ha.o];have cG:=eu bD;clear hs bD;go_wp2_with fail;refine(Vc (by simp) hx (B:=IB w) (λhr=>by simp only[IB]at hr;omega) (by rw[VM Ha.o];simp) (Tu Ha.o) (iz.o.gb (Bj none cG.o) (by simp)) jR.o (Hs.o.below cG.o)).mono ?_;rintro en w4⟨v4,rfl,aZ,bV,bM⟩;have dv:=eu aZ;have gh:=eu bV;have gN:=eu bM;have jj:=aZ.one.cells;clear aZ bV bM;go_wp2;go_ret;refine⟨v4,rfl,dv.o.mono (λb _ hb=>?_),gh.o,qN (qN Hg.o (Bj _ cG.o)) gN.o⟩;rcases hb with hb|hb
  .exact hb
  .have:=cG.o.size;simp only[IB]at hb|-;omega
variable {ex:Rd}
theorem zxW(hx:QW ex)(k:Nat):Tw 196 (Py ex k):=
 zwr (zyC (zrN (sub:=OZ ex k) (λ_ _ _ _ _ _ hq h=>zxd hx hq h) k) k)
variable {w:World}{r tb:Nat}{T:List Tok}{q:Ex × St}
theorem zsI(hx:QW ex)(hq:ex true (Th.want [61] (Th.IG st).2)=some q)(h:RS w r tb T st):
  Calls prog 249 #[.pointer (some ⟨r,0,none⟩)] w λen w'=>
   ∃v,en=.returned (.agg #[.string ⟨(Th.IG st).1.s.toArray⟩,.int .i64 (Th.IG st).1.at_,v])/\Nl (IB w) w' v q.1 q.2/\RS w' r tb T q.2/\w.grownBy w' (some r):=by
 have bd:=h.lt;have cu:=h.P0;have HQ:=eu hq;have h0:=h.alloc (.cells #[.string ⟨#[]⟩,.int .i64 0,.nilIface] 312);have BR:=eu (gH w [.string ⟨#[]⟩,.int .i64 0,.nilIface] 312);have eQ:=eu (IS w (.cells #[.string ⟨#[]⟩,.int .i64 0,.nilIface] 312) (some r));clear hq h;go_enter func249,ntmps249;go_wp2_with fail;refine(Xk h0).mono ?_;rintro e w1⟨rfl,aW,bw⟩;obtain⟨⟨x,s1⟩,tG⟩:∃y,Th.IG st=y:=⟨_,rfl⟩;rw[tG]at aW HQ|-;have gF:=eu (aW.alloc (.cells #[.string ⟨x.s.toArray⟩,.int .i64 x.at_,.nilIface] 312));have gY:=eu (qN (qN eQ.o bw) (IS w1 (.cells #[.string ⟨x.s.toArray⟩,.int .i64 x.at_,.nilIface] 312) (some r)));have aP:w.heap.size<w1.heap.size:=by have:=bw.size;simp at this;omega
 have B1:=eu (gH w1 [.string ⟨x.s.toArray⟩,.int .i64 x.at_,.nilIface] 312);have om:=eu ((BR.o.grown bw (by simp;omega)).alloc (.cells #[.string ⟨x.s.toArray⟩,.int .i64 x.at_,.nilIface] 312));have Dj:=eu tG;clear h0 aW bw tG;go_wp2_with fail;refine(Qi gF.o ⟨#[61]⟩).mono ?_;rintro e w2⟨rfl,aI,aF⟩;have eK:=eu (qN gY.o aF);have B2:=eu (B1.o.grown aF (by simp;omega));have vh:=eu (om.o.grown aF (by simp;omega));clear aF;go_wp2_with fail;refine(hx _ _ _ _ _ _ _ HQ.o aI).mono ?_;rintro e w3⟨v,rfl,aq,bP,aS⟩;have B3:=B2.o.grown aS (by simp;omega);have km:=vh.o.grown aS (by simp;omega);have c0:=B3.cell 0;have c1:=B3.cell 1;have c2:=B3.cell 2;have f2:=B3.frozen 2;have d0:=km.cell 0;have d1:=km.cell 1;have d2:=km.cell 2;have g0:=km.frozen 0;have g1:=km.frozen 1;have g2:=km.frozen 2;simp at c0 c1 c2 d0 d1 d2;have gC:=eu (qN eK.o aS);have aL:=B3.lt;have mw:=eu B3;have BE:=eu km;have fG:=eu bP;have ho:=aq.one;have cj:=eu (aq.mono (S':=λb=>IB w b/\b≠w1.heap.size/\b≠w.heap.size) (λk _ hk=>by have h1:=eK.o.size;have h2:=B2.o.lt;simp only[IB]at hk|-;omega))
 have B4:=eu (((((km.other ⟨w1.heap.size,2,none⟩ v (by simp;omega)).set 0 (.string ⟨x.s.toArray⟩)).set 1 (.int .i64 x.at_)).set 2 v));have cE:=eu (kK
  ((((((cj.o.gb (MF w3 w1.heap.size 2 v) (by simp)).gb (MF _ w.heap.size 0 (.string ⟨x.s.toArray⟩)) (by simp)).gb (MF _ w.heap.size 1 (.int .i64 x.at_)) (by simp)).gb (MF _ w.heap.size 2 v) (by simp))).mono (S':=IB w) (λk _ hk=>hk.1))
  (kK ((((fG.o.set w1.heap.size 2 v (by omega) (by omega)).set w.heap.size 0 (.string ⟨x.s.toArray⟩) (by omega) (by omega)).set w.heap.size 1 (.int .i64 x.at_) (by omega) (by omega)).set w.heap.size 2 v (by omega) (by omega))
   (Nv (Nv (Nv (Nv gC.o ⟨w1.heap.size,2,none⟩ v (SY aP)) ⟨w.heap.size,0,none⟩ (.string ⟨x.s.toArray⟩) (qP _)) ⟨w.heap.size,1,none⟩ (.int .i64 x.at_) (qP _)) ⟨w.heap.size,2,none⟩ v (qP _))))
 clear aI aS B3 km bP aq cj;rcases ho.shape with rfl|⟨t1,x1,rfl⟩
 all_goals
  clear ho;go_wp2_with fail;have p0:=B4.o.cell 0;have p1:=B4.o.cell 1;have p2:=B4.o.cell 2;simp at p0 p1 p2;refine mF (by simp[results,Tryz.results249,go_sem,p0,p1,p2];rfl) rfl ⟨_,by rw[Dj.o],cE.o⟩
variable {S:Nat->Prop}{e:TypeId}{size n:Nat}{v:Value}{xs:List Value}
theorem Mq(h:Row S w e size v n xs):v=.slice none 0 0\/∃g cap,v=.slice (some ⟨g,0,none⟩) n cap:=by
 rcases h.1.2 with⟨h,_⟩|⟨g,cap,cur,h,_⟩
 .exact .inl h
 .exact .inr ⟨g,cap,h⟩
theorem zw7{w7:World}{b1:Nat}{nv:Value}{x:Ex}{s:St}{vs:List Value}{l:List Tok}(tg:Nat)(hb:oH w7 w.heap.size [.int .i64 0,.slice none 0 0,.nilIface] 240)(hr:Row (λb=>IB w b/\b≠b1/\b≠w.heap.size) w7 88 2 nv l.length vs)(hg:Nl (λb=>IB w b/\b≠b1/\b≠w.heap.size) w7 v x s)(hs:RS w7 r tb T s)(hG:w.grownBy w7 (some r))(hz:w.heap.size<b1)(bd:r<w.heap.size)(cu:tb<w.heap.size):
  oH ((((w7.setCell ⟨b1,2,none⟩ v).setCell ⟨w.heap.size,0,none⟩ (.int .i64 tg)).setCell ⟨w.heap.size,1,none⟩ nv).setCell ⟨w.heap.size,2,none⟩ v) w.heap.size [.int .i64 tg,nv,v] 240 /\
  Row (IB w) ((((w7.setCell ⟨b1,2,none⟩ v).setCell ⟨w.heap.size,0,none⟩ (.int .i64 tg)).setCell ⟨w.heap.size,1,none⟩ nv).setCell ⟨w.heap.size,2,none⟩ v) 88 2 nv l.length vs /\
  Nl (IB w) ((((w7.setCell ⟨b1,2,none⟩ v).setCell ⟨w.heap.size,0,none⟩ (.int .i64 tg)).setCell ⟨w.heap.size,1,none⟩ nv).setCell ⟨w.heap.size,2,none⟩ v) v x s /\
  RS ((((w7.setCell ⟨b1,2,none⟩ v).setCell ⟨w.heap.size,0,none⟩ (.int .i64 tg)).setCell ⟨w.heap.size,1,none⟩ nv).setCell ⟨w.heap.size,2,none⟩ v) r tb T s /\
  w.grownBy ((((w7.setCell ⟨b1,2,none⟩ v).setCell ⟨w.heap.size,0,none⟩ (.int .i64 tg)).setCell ⟨w.heap.size,1,none⟩ nv).setCell ⟨w.heap.size,2,none⟩ v) (some r):=by
 refine⟨?_,?_,?_,?_,?_⟩
 .exact(((hb.other ⟨b1,2,none⟩ v (by simp;omega)).set 0 (.int .i64 tg)).set 1 nv).set 2 v
 .exact((((hr.gb (MF _ _ _ _) (by simp)).gb (MF _ _ _ _) (by simp)).gb (MF _ _ _ _) (by simp)).gb (MF _ _ _ _) (by simp)).mono (λk _ hk=>hk.1)
 .exact((((hg.gb (MF _ _ _ _) (by simp)).gb (MF _ _ _ _) (by simp)).gb (MF _ _ _ _) (by simp)).gb (MF _ _ _ _) (by simp)).mono (λk _ hk=>hk.1)
 .exact(((hs.set _ _ _ (by omega) (by omega)).set _ _ _ (by omega) (by omega)).set _ _ _ (by omega) (by omega)).set _ _ _ (by omega) (by omega)
 .exact Nv (Nv (Nv (Nv hG _ _ (SY hz)) _ _ (qP _)) _ _ (qP _)) _ _ (qP _)
theorem zwN(hx:QW ex){c:Bool}{q:(Nat × List Tok) × Ex × St}(hq:PC ex c st=some q)(h:RS w r tb T st):
  Calls prog 250 #[.pointer (some ⟨r,0,none⟩),.bool c] w λen w'=>
   ∃nv v,en=.returned (.agg #[.int .i64 q.1.1,nv,v])/\Row (IB w) w' 88 2 nv q.1.2.length (Ms q.1.2)/\Nl (IB w) w' v q.2.1 q.2.2/\RS w' r tb T q.2.2/\w.grownBy w' (some r):=by
 have bd:=h.lt;have cu:=h.P0;unfold PC at hq;simp only[JM,IA]at hq;obtain⟨q1,cF,rfl⟩:=hq;generalize mg:Th.Kv 1 99 (Th.want [60] st)=tg at cF|-;generalize da:Th.JR (Th.want [62] tg.2)=ln at cF|-;have HQ:=eu cF;have vV:=eu mg;have kB:=eu da;have h0:=h.alloc (.cells #[.int .i64 0,.slice none 0 0,.nilIface] 240);have BR:=eu (gH w [.int .i64 0,.slice none 0 0,.nilIface] 240);have eQ:=eu (IS w (.cells #[.int .i64 0,.slice none 0 0,.nilIface] 240) (some r));clear cF h mg da;go_enter func250,ntmps250;go_wp2_with fail;refine(Qi h0 ⟨#[60]⟩).mono ?_;rintro e w1⟨rfl,aW,bw⟩;have gY:=eu (qN eQ.o bw);have om:=eu (BR.o.grown bw (by simp;omega));clear h0 bw;go_wp2_with fail;refine(zuF aW).mono ?_;rintro e w2⟨rfl,aI,aF⟩;rw[show Th.Kv 1 99 (Th.want (ByteArray.mk #[60]).data.toList st)=tg from vV.o]at aI|-;have bF:w.heap.size<w2.heap.size:=by have h1:=om.o.lt;have h2:=aF.size;omega
 have eK:=eu (qN (qN gY.o aF) (IS w2 (.cells #[.int .i64 tg.1,.slice none 0 0,.nilIface] 240) (some r)));have vh:=eu ((om.o.grown aF (by simp;omega)).alloc (.cells #[.int .i64 tg.1,.slice none 0 0,.nilIface] 240));have B2:=eu (gH w2 [.int .i64 tg.1,.slice none 0 0,.nilIface] 240);have eS:=eu (aI.alloc (.cells #[.int .i64 tg.1,.slice none 0 0,.nilIface] 240));clear aW aI aF;go_wp2_with fail;refine(Qi eS.o ⟨#[62]⟩).mono ?_;rintro e w3⟨rfl,bP,aS⟩;have gC:=eu (qN eK.o aS);have km:=eu (vh.o.grown aS (by simp;omega));have B3:=eu (B2.o.grown aS (by simp;omega));clear aS;go_wp2_with fail;refine(zn3 bP).mono ?_;rintro e w4⟨nv,rfl,af,bV,bM⟩;rw[show Th.JR (Th.want (ByteArray.mk #[62]).data.toList tg.2)=ln from kB.o]at af bV;have ym:=gC.o.size;have bD:=B3.o.lt;have hR:Row (λb=>IB w b/\b≠w2.heap.size/\b≠w.heap.size) w4 88 2 nv ln.1.length (Ms ln.1):=(lP af).mono (λk _ hk=>by simp only[IB];omega);have gZ:=eu (qN gC.o bM);have tV:=km.o.grown bM (by simp;omega);have B4:=B3.o.grown bM (by simp;omega);have c1:=B4.cell 1;have f1:=B4.frozen 1;simp at c1;have xF:=B4.lt;have Bk:=eu (tV.other ⟨w2.heap.size,1,none⟩ nv (by simp;omega));have B5:=eu (B4.set 1 nv);have oF:=eu (bV.set w2.heap.size 1 nv (by omega) (by omega));have lS:=eu (Nv gZ.o ⟨w2.heap.size,1,none⟩ nv (SY bF));have Cz:=eu (hR.gb (MF w4 w2.heap.size 1 nv) (by simp));have gV:=Mq hR;clear bP bV bM af hR tV B4;rcases gV with rfl|⟨gn,wu,rfl⟩
 all_goals
  go_wp2_with fail;refine(Qi oF.o ⟨#[45,62]⟩).mono ?_;rintro e w6⟨rfl,jL,fk⟩;have kb:=eu (qN lS.o fk);have vj:=eu (Bk.o.grown fk (by simp;omega));have B6:=eu (B5.o.grown fk (by simp;omega));have vS:=eu (Cz.o.gb fk (λk hk=>by cases hk;simp only[IB];omega));clear fk c1 f1;go_wp2_with fail;refine(hx _ _ _ _ _ _ _ HQ.o jL).mono ?_;rintro e w7⟨v,rfl,aq,s7,kW⟩;have ko:=vj.o.grown kW (by simp;omega);have B7:=B6.o.grown kW (by simp;omega);have c0:=B7.cell 0;have c1:=B7.cell 1;have c2:=B7.cell 2;have f2:=B7.frozen 2;have d0:=ko.cell 0;have d1:=ko.cell 1;have d2:=ko.cell 2;have g0:=ko.frozen 0;have g1:=ko.frozen 1;have g2:=ko.frozen 2;simp at c0 c1 c2 d0 d1 d2;have qv:=eu (qN kb.o kW);have vT:=eu (vS.o.gb kW (λk hk=>by cases hk;simp only[IB];omega));have EO:=B7.lt;have cj:=eu (aq.mono (S':=λb=>IB w b/\b≠w2.heap.size/\b≠w.heap.size) (λk _ hk=>by have h1:=kb.o.size;have h2:=B6.o.lt;simp only[IB]at hk|-;omega))
  have ho:=aq.one;have v8:=eu s7;have yN:=eu B7;have ov:=eu ko;clear jL kW aq s7 B7 ko;rcases ho.shape with rfl|⟨t1,x1,rfl⟩
  all_goals
   clear ho;have cE:=eu (zw7 tg.1 ov.o vT.o cj.o v8.o qv.o bF bd cu);go_wp2_with fail;have p0:=cE.o.1.cell 0;have p1:=cE.o.1.cell 1;have p2:=cE.o.1.cell 2;simp at p0 p1 p2;refine mF (by simp[results,Tryz.results250,go_sem,p0,p1,p2]) rfl ⟨_,_,rfl,cE.o.2⟩
end
end Go.Proofs.YtgahgkddaljmkaaGreatDoor
