/- Mach38 .. Mach43 -/
import Derived.Test.YtgahgkddaljmkaaGreatDoorV6
set_option maxRecDepth 100000
set_option maxHeartbeats 4000000
namespace Go.Proofs.YtgahgkddaljmkaaGreatDoor
open Tryz Th Cp
section
open Go.RowKit
variable {m m':l0}{c:Nat}
theorem QN{f:l0->Option (Except Nat l0)}(hf:∀m1,f m1=some (.ok m')->m'.o.pb=m1.o.pb)(h:Nj (m.M8 c) f=some (.ok m')):m'.o.pb=m.o.pb:=by
 unfold Nj at h;split at h
 .cases h
 .cases h
 .next m1 hn=>rw[hf m1 h,Zc hn]
theorem SJ{s:Option nG}(h:m.put s=some (.ok m')):m'.o.pb=m.o.pb:=by
 unfold l0.put at h;cases s with
 |none=>cases h
 |some q=>cases h;rfl
theorem WR{v:Int}(h:m.N5 v=some (.ok m')):m'.o.pb=m.o.pb:=QN (λ_ h1=>SJ h1) h
theorem zl6{hd:Int}(h:m.build hd c=some (.ok m')):m'.o.pb=m.o.pb:=by
 unfold l0.build at h;refine QN (λm1 h1=>?_) h
 first
  |exact SJ h1
  |(split at h1<;>first|exact SJ h1|cases h1)
theorem zik{b:Bool}(h:m.Uv b=some (.ok m')):m'.o.pb=m.o.pb:=zl6 h
theorem zrj{sg:ByteArray}(h:m.compute sg=some (.ok m')):m'.o.pb=m.o.pb:=by
 unfold l0.compute at h;split at h
 .cases h
 .cases h
 .split at h
  .cases h
  .cases h
  .split at h
   .cases h
   .next s1 hs=>
    unfold l0.calc at h;split at h
    ·(have:=WR h;exact this)
    .split at h
     ·(have:=WR h;exact this)
     .split at h
      ·(have:=WR h;exact this)
      .split at h
       .split at h
        .cases h
        ·(have:=WR h;exact this)
       .split at h
        ·(have:=zik h;exact this)
        .split at h
         ·(have:=zik h;exact this)
         .cases h
theorem zu9(h:m.Qn=some (.ok m')):m'.o.pb=m.o.pb:=by
 unfold l0.Qn at h;split at h
 .cases h
 .refine QN (λm1 h1=>?_) h;simp only[M9,T0,Jn]at h1;unfold l0.begun at h1;split at h1
  .cases h1
  .split at h1
   .cases h1
   .split at h1
    .cases h1
    .split at h1
     .cases h1
     .split at h1
      .cases h1
      .split at h1
       .cases h1
       .cases h1;rfl
theorem zxe{a b:Nat}(h:m.call a b=some (.ok m')):m'.o.pb=m.o.pb:=by
 unfold l0.call at h;split at h
 .cases h
 .refine QN (λm1 h1=>?_) h;simp only[M9,T0,Jn]at h1;unfold l0.called at h1;split at h1
  .cases h1
  .split at h1
   .cases h1
   .split at h1
    .cases h1
    .split at h1
     .cases h1
     .split at h1
      .cases h1
      .split at h1
       .cases h1
       .split at h1
        .cases h1
        .cases h1;rfl
variable {sl:List Nat}
theorem zi1{b:Bool}(h:m.NX sl c=some (.ok (b,m'))):m'.o.pb=m.o.pb:=by
 unfold l0.NX at h;split at h
 .cases h
 .split at h
  .cases h
  .split at h
   .cases h
   .split at h
    .split at h
     .cases h
     .cases h
     .next hx=>cases h;rw[zqt hx]
    .split at h
     .cases h
     .split at h
      .cases h
      .cases h
      .next hx=>cases h;exact zxe hx
theorem zji{sl:List Nat}:∀{g:Nat}{m m':l0},l0.MZ sl g m=some (.ok m')->m'.o.pb=m.o.pb
 |0,_,_,h=>by cases h
 |g+1,m,m',h=>by
  rw[l0.MZ]at h;split at h
  .cases h;rfl
  .split at h
   .cases h
   .split at h
    .cases h
    .split at h
     .split at h
      .cases h
      ·(have:=zji h;exact this)
     .split at h
      .split at h
       .cases h
       .simp only[M9,T0]at h;obtain⟨s',_,rfl⟩:=h;rfl
      .split at h
       .split at h
        .cases h
        .cases h
        .next q hq=>
         obtain⟨b,m2⟩:=q;split at h
         .cases h;exact zi1 hq
         .rw[zji h];exact zi1 hq
       .cases h
theorem zlm{a:Nat}(h:m.Sx sl a=some (.ok m')):m'.o.pb=m.o.pb:=by
 unfold l0.Sx at h;split at h
 .cases h
 .split at h
  .cases h
  .split at h
   .cases h
   .split at h
    .exact zu9 h
    .exact zji h
theorem zqo(h:m.enter sl=some (.ok m')):m'.o.pb=m.o.pb:=by
 unfold l0.enter at h;split at h
 .cases h
 .split at h
  .split at h
   .cases h
   ·(have:=zlm h;exact this)
  .exact zlm h
theorem zwk{b:Nat}(h:m.split c b=some (.ok m')):m'.o.pb=m.o.pb:=by
 unfold l0.split at h;split at h
 .cases h
 .split at h
  .refine QN (λm1 h1=>?_) h;simp only[M9,T0,Jn]at h1;unfold l0.Ze at h1;split at h1
   .cases h1
   .split at h1
    .cases h1
    .split at h1
     .cases h1
     .split at h1
      .cases h1
      .cases h1;rfl
  .cases h
theorem znw{m m':l0}{y:Int}:∀{nA:List (Nat × Nat × Nat)},m.OX y nA=some (.ok m')->m'.o.pb=m.o.pb
 |[],h=>by cases h
 |(t,c,b)::l,h=>by
  rw[l0.OX]at h;split at h
  .exact zwk h
  .exact znw h
theorem zxT{i:Ds}(h:m.step sl i=some (.ok m')):m'.o.pb=m.o.pb:=by
 cases i with
 |push k=>
  refine QN (λm1 h1=>?_) h;split at h1
  .cases h1
  .split at h1
   .cases h1
   .exact SJ h1
 |PM f=>
  refine QN (λm1 h1=>?_) h;split at h1
  .cases h1
  .exact SJ h1
 |num x=>exact WR h
 |pack t c=>
  simp only[l0.step,l0.pack]at h;split at h
  .exact zl6 h
  .cases h
 |close b c=>
  simp only[l0.step,l0.pack]at h;split at h
  .exact zl6 h
  .cases h
 |hold b c=>
  simp only[l0.step,l0.hold]at h;split at h
  .exact QN (λm1 h1=>SJ h1) h
  .cases h
 |fill k c=>
  simp only[l0.step,l0.VF]at h;split at h
  .cases h
  .split at h
   .cases h
   .split at h
    .cases h
    .split at h
     .cases h
     .split at h
      .exact SJ h
      .cases h
 |wait b=>
  simp only[l0.step,l0.RN]at h;split at h
  .exact QN (λm1 h1=>SJ h1) h
  .cases h
 |N6 c=>
  simp only[l0.step,l0.RN]at h;split at h
  .exact QN (λm1 h1=>SJ h1) h
  .cases h
 |NG c=>
  simp only[l0.step,M9,T0,Jn]at h;unfold l0.NG at h;split at h
  .cases h;rfl
  .cases h
 |PJ=>
  simp only[l0.step,M9]at h;obtain⟨q,_,h2⟩:=h;cases q with
  |error k=>cases h2
  |ok v=>cases h2;rfl
 |comp sg=>exact zrj h
 |enter=>exact zqo h
 |jump b=>cases h;rfl
 |choose nA=>
  simp only[l0.step,l0.choose]at h;split at h
  .cases h
  .split at h
   .exact znw h
   .cases h
theorem zxb(h:m.SM=.ok m'):m'.o.pb=m.o.pb:=by
 unfold l0.SM at h;split at h
 .cases h
 .cases h;rfl
end
section
open Go.RowKit Go.Shelf
attribute [local go_sem ↓] Go.wp_at_zero Go.wp_at_succ
attribute [local go_sem] Oper.semAt_some
def Q4 (w:World) (mb wb:Nat) (fv pv:Value) (cd:List (Nat × List Ds)):Prop:=
 ∃pb cap,pv=.slice (some ⟨pb,0,none⟩) cd.length cap/\pb<w.heap.size/\¬MB mb wb fv pb /\
  ∀(i n:Nat)(is:List Ds),cd[i]?=some (n,is)->n<=1000000/\is.length<=1000000000/\w.cell? ⟨pb,i*2,none⟩=some (.int .i64 n) /\
   ∃cb cp vs,w.cell? ⟨pb,i*2+1,none⟩=some (.slice (some ⟨cb,0,none⟩) is.length cp)/\cb<w.heap.size/\¬MB mb wb fv cb/\List.length vs=is.length /\
    ∀(j:Nat)(x:Ds),is[j]?=some x->∃v,vs[j]?=some v/\w.cell? ⟨cb,j,none⟩=some v/\Sd w mb wb fv v x
theorem Q4.fr{w w':World}{mb wb:Nat}{fv pv:Value}{cd:List (Nat × List Ds)}(h:Q4 w mb wb fv pv cd)(f:Fr (MB mb wb fv) w w'):Q4 w' mb wb fv pv cd:=by
 obtain⟨pb,cap,h1,h2,h3,h4⟩:=h;refine⟨pb,cap,h1,Kl h2 f.size,h3,λi n is hi=>?_⟩;obtain⟨a1,a2,a3,cb,cp,vs,b1,b2,b3,b4,b5⟩:=h4 i n is hi;have e:∀j,w'.cell? ⟨pb,j,none⟩=w.cell? ⟨pb,j,none⟩:=λj=>kI (w:=w) (f.block pb h2 h3)
 have e2:∀j,w'.cell? ⟨cb,j,none⟩=w.cell? ⟨cb,j,none⟩:=λj=>kI (w:=w) (f.block cb b2 b3)
 refine⟨a1,a2,by rw[e];exact a3,cb,cp,vs,by rw[e];exact b1,Kl b2 f.size,b3,b4,λj x hj=>?_⟩;obtain⟨v,c1,c2,c3⟩:=b5 j x hj;exact⟨v,c1,by rw[e2];exact c2,c3.fr f⟩
variable {w:World}{mb wb:Nat}{fv pv:Value}{cd:List (Nat × List Ds)}
theorem Q4.kD(h:Q4 w mb wb fv pv cd):O4 w mb wb fv pv (cd.map Prod.fst):=by obtain⟨pb,cap,h1,h2,h3,h4⟩:=h;refine⟨pb,cap,by rw[h1,q7],h2,h3,λi n hi=>?_⟩;rw[IP,M9]at hi;obtain⟨⟨n',is⟩,hi,rfl⟩:=hi;obtain⟨a1,_,a3,_⟩:=h4 i n' is hi;exact⟨a1,a3⟩
def l0.Nb (sl:List Nat):List Ds->l0->Option (Except Nat l0)
 |[],m=>some (.ok m)
 |i::l,m=>
  match m.SM with
  |.error k=>some (.error k)
  |.ok m1=>
   match m1.step sl i with
   |none=>none
   |some (.error k)=>some (.error k)
   |some (.ok m2)=>l0.Nb sl l m2
def l0.work (cd:List (Nat × List Ds)):Nat->l0->Option (Except Nat l0)
 |0,_=>none
 |g+1,m=>
  if m.o.next=-1 then some (.ok m)else
  if m.o.next<0 then none else
  match cd[m.o.next.toNat]? with
  |none=>none
  |some (n,is)=>
   match l0.Nb (cd.map Prod.fst) is { m with o:={ m.o with below:=(m.s.low:Int)+(m.s.half:Int)-(m.s.top:Int)-(n:Int) } }with
   |none=>none
   |some (.error k)=>some (.error k)
   |some (.ok m2)=>l0.work cd g m2
theorem Fr.putObj{K:Nat->Prop}{a b:World}(h:Fr K a b){l:Nat}(o:Obj)(hl:a.heap.size<=l):Fr K a (b.putObj l o):=
 ⟨h.os,h.tape,h.output,by rw[World.putObj_size];exact h.size,λi hi hK=>(World.putObj_heap_other (by omega)).trans (h.block i hi hK)⟩
theorem oH.putObj{w:World}{b l:Nat}{vs:List Value}{t:TypeId}(h:oH w b vs t){x:Obj}(hx:w.heap[l]?=some x)(hc:∀cs t f,x≠.cells cs t f)(o:Obj):oH (w.putObj l o) b vs t:=by
 unfold oH at h|-;rw[World.putObj_heap_other ?_]
 .exact h
 .intro e;subst e;rw[h]at hx;cases hx;exact hc _ _ _ rfl
theorem qS.putObj{w:World}{mb wb l:Nat}{tl:List Value}{s:nG}(h:qS w mb wb tl s){x:Obj}(hx:w.heap[l]?=some x)(hc:∀cs t f,x≠.cells cs t f)(o:Obj):qS (w.putObj l o) mb wb tl s:=
 ⟨h.blk.putObj hx hc o,h.MX.putObj hx hc o,h.ne,h.len,h.half,h.low,h.free,h.top⟩
theorem qW.putObj{w:World}{mb wb l:Nat}{fv:Value}{m:l0}(h:qW w mb wb fv m){x:Obj}(hx:w.heap[l]?=some x)(hc:∀cs t f,x≠.cells cs t f)(o:Obj):qW (w.putObj l o) mb wb fv m:=by
 refine⟨h.sat.putObj hx hc o,?_,h.fl,h.fuel⟩;rcases h.OS with h1|⟨fb,cap,sp,h1,⟨h2,h3⟩,h4⟩
 .exact .inl h1
 .exact .inr ⟨fb,cap,sp,h1,⟨h2.putObj hx hc o,h3⟩,h4⟩
def Marks (base:Nat) (W:World) (D:List Deferred):Prop:=
 ∃ds:List Nat,D=ds.map (λd=>{ target:=.collected d,args:=#[] })/\ds.Nodup/\∀d∈ds,base<=d/\W.heap[d]?=some (.deferred (some []))
variable {base:Nat}{K:Nat->Prop}
theorem Marks.fr{W W':World}{D:List Deferred}(h:Marks base W D)(f:Fr K W W')(hK:∀k,base<=k->¬K k):Marks base W' D:=by obtain⟨ds,h1,h2,h3⟩:=h;exact⟨ds,h1,h2,λd hd=>⟨(h3 d hd).1,(f.block d (Nz.1 (h3 d hd).2).1 (hK d (h3 d hd).1)).trans (h3 d hd).2⟩⟩
variable {n:Nat}
theorem Vh{F:Fence}{P:Program}{fn:Func}{tmps:Array Value}{R:Ending->World->Prop}{u:FrameMode}{I:World->Prop}(hu:u≠.run)(hI:∀W d,I W->base<=d->W.heap[d]?=some (.deferred (some []))->I (W.putObj d (.deferred none)))(cJ:∀W,I W->LeavesIn F n P fn tmps R [] u W):
  ∀{W:World}{D:List Deferred},Marks base W D->I W->LeavesInM F n P fn tmps R D u W:=by
 rintro W D⟨ds,rfl,hn,hd⟩hW
 induction ds generalizing W with
 |nil=>exact cJ W hW
 |cons d ds ih=>obtain⟨h1,h2⟩:=hd d vW;obtain⟨cR,eY⟩:=Wl.1 hn;refine⟨hu,.inl ⟨d,_,rfl,run_takeDeferred h2,ih eY (λd' iH=>?_) (hI W d hW h1 h2)⟩⟩;obtain⟨h3,h4⟩:=hd d' (l7 _ iH);refine⟨h3,(World.putObj_heap_other ?_).trans h4⟩;rintro rfl;exact cR iH
theorem Xi(n:Int)(h₀:-4611686018427387904<=n)(h₁:n<4611686018427387904:=by omega):IntKind.i64.wrap n=n:=by rw[uv];omega
theorem qW.drew{w:World}{mb wb:Nat}{fv:Value}{m:l0}(h:qW w mb wb fv m):qW w.drew mb wb fv m:=h.drewN 1
theorem zsk(cb n cap:Nat)(w:World):Calls prog 130 #[.slice (some ⟨cb,0,none⟩) n cap] w λe w'=>
  e=.returned (.func (.func 206) #[] #[.pointer (some ⟨w.heap.size,0,none⟩)])/\w'=w.alloc (.cells #[.slice (some ⟨cb,0,none⟩) n cap] 94):=by
 go_enter func130,ntmps130;go_wp2;go_ret;exact⟨rfl,rfl⟩
theorem zit(s:Int)(cb n cap:Nat)(w:World):Calls prog 79 #[.agg #[.int .i64 s,.slice (some ⟨cb,0,none⟩) n cap]] w λe w'=>
  e=.returned (.func (.func 206) #[] #[.pointer (some ⟨w.heap.size+1,0,none⟩)])/\w'=(w.alloc (.cells #[.int .i64 s,.slice (some ⟨cb,0,none⟩) n cap] 96)).alloc (.cells #[.slice (some ⟨cb,0,none⟩) n cap] 94):=by
 go_enter func79,ntmps79;go_wp2_with fail;refine(zsk cb n cap _).mono ?_;rintro e w1⟨rfl,aD⟩;subst w1;go_wp2;go_ret;exact⟨by simp,rfl⟩
variable {m:l0}{g:Nat}
theorem zq2{r:Except Nat l0}(h:qW w mb wb fv m)(hC:Q4 w mb wb fv m.o.pb cd)(hb:l0.work cd g m=some r):
  Calls prog 47 #[.pointer (some ⟨mb,0,none⟩)] w λe w'=>Ends w mb wb fv r e w':=by
 have HH:=eu h;have HC:=eu hC;have HR:=eu hb;obtain⟨H1,B1,F1,bW⟩:=h.pre [.pointer (some ⟨mb,0,none⟩)] 75;clear h hC hb;refine zgQ func47 rfl ?_;simp only[ntmps47,O3,Kh,My,Nat.reduceAdd,Nat.reduceSub,QX,QY,Q0,QZ,MQ,MP];obtain⟨Q,hQ⟩:∃Q,bodyPostM Fence.wide 0 prog Tryz.f47 (λe w'=>Ends w mb wb fv r e w')=Q:=⟨_,rfl⟩;have HQ:=eu hQ;rw[hQ];clear hQ;refine Xh ?_;intro K0 zO;go_wp2_with fail
 try(refine zO _ _ ?_;clear zO K0)
 generalize w.alloc (.cells #[.pointer (some ⟨mb,0,none⟩)] 75)=w1 at H1 F1 B1|-;refine zks ?_;refine zsn (λgk a W=>∃(u2 u3 u4 u5 u6 u7 u8 u9 u10 u11 u12 u13 u14 u15 u16 u17 u18 u19 u20 u21 u22 u23 u24 u25 u26 u27 u28 u29 u30 u31 u32 u33 u34 u35 u36 u37 u38 u39 u40 u41 u42 u43:Value)(D:List Deferred)(q:l0),a={ tmps:=#[.pointer (some ⟨mb,0,none⟩),.pointer (some ⟨w.heap.size,0,none⟩),u2,u3,u4,u5,u6,u7,u8,u9,u10,u11,u12,u13,u14,u15,u16,u17,u18,u19,u20,u21,u22,u23,u24,u25,u26,u27,u28,u29,u30,u31,u32,u33,u34,u35,u36,u37,u38,u39,u40,u41,u42,u43],defers:=D } /\
  qW W mb wb fv q/\q.o.pb=m.o.pb/\l0.work cd gk q=some r/\Fr (MB mb wb fv) w W/\oH W w.heap.size [.pointer (some ⟨mb,0,none⟩)] 75/\Marks w.heap.size W D) g ?_ ?_
 .exact⟨_,_,_,_,_,_,_,_,_,_,_,_,_,_,_,_,_,_,_,_,_,_,_,_,_,_,_,_,_,_,_,_,_,_,_,_,_,_,_,_,_,_,[],m,rfl,H1.o,rfl,HR.o,F1.o,B1.o,[],rfl,List.nodup_nil,by simp⟩
 rintro gk a wr⟨u2,u3,u4,u5,u6,u7,u8,u9,u10,u11,u12,u13,u14,u15,u16,u17,u18,u19,u20,u21,u22,u23,u24,u25,u26,u27,u28,u29,u30,u31,u32,u33,u34,u35,u36,u37,u38,u39,u40,u41,u42,u43,D,q,rfl,hq,iN,hw,ak,rS,Au⟩KL zS;have ga:=eu zS;clear zS;refine Xh ?_;intro K1 oN;have cN:=al rS 0;simp at cN;have aH:w.heap.size≠mb:=by have:=HH.o.sat.blk.lt;omega
 have Qy:=hq.sat.Qy;cases gk with
 |zero=>cases hw
 |succ k=>
  rw[l0.work]at hw;have cY:=eu ak;have y5:=eu Au;have vq:=eu rS;have lV:=eu iN;have qA:=eu hq;clear ak Au rS iN hq;split at hw
  .next cJ=>obtain rfl:=J8 hw;rw[cJ]at Qy;clear cJ hw;go_wp2_with fail;rw[<-HQ.o];refine Vh (I:=λW=>Fr (MB mb wb fv) w W/\qW W mb wb fv q) (by simp) (λW d hW hd iX=>⟨hW.1.putObj _ hd,hW.2.putObj iX (by simp) _⟩) (λW hW=>?_) y5.o ⟨cY.o,qA.o⟩;exact⟨_,IM rfl _ _ _,hW.1,rfl,hW.2⟩
  .next cJ=>
   split at hw
   .cases hw
   .next dV=>
    obtain⟨nx,gx⟩:∃nx:Nat,q.o.next=nx:=⟨q.o.next.toNat,by omega⟩;rw[gx,MO]at hw;rw[gx]at Qy;split at hw
    .cases hw
    .next n is rV=>
     have jV:=HC.o.fr cY.o;rw[<-lV.o]at jV;obtain⟨pb,cap,eD,E2,pZ,dA⟩:=jV;obtain⟨EV,GD,bH,cb,cp,vs,bT,jl,lY,dJ,sx⟩:=dA nx n is rV;have c5:=qA.o.sat.c5;rw[eD]at c5;have ev:=(Dq.1 rV).1;have EY:(nx:Int)<(cd.length:Int):=by omega
     have EX:(0:Int)<=(nx:Int):=by omega
     have xP:((nx:Int) == -1)=false:=by rw[kJ];omega
     have EZ:((nx:Int) != -1)=true:=by rw[bne,xP];rfl
     have qw:=eu sx;clear dA sx cJ dV gx;go_wp2_with fail
     try(refine oN _ _ ?_;clear oN K1)
     refine zks (Xh ?_);intro K2 rE
     go_region_held3 (λW=>W.cell? ⟨w.heap.size,0,none⟩=some (.pointer (some ⟨mb,0,none⟩))/\W.cell? ⟨mb,5,none⟩=some (.slice (some ⟨pb,0,none⟩) cd.length cap)/\W.cell? ⟨mb,10,none⟩=some (.int .i64 nx)/\W.cell? ⟨pb,nx*2,none⟩=some (.int .i64 n)/\W.cell? ⟨pb,nx*2+1,none⟩=some (.slice (some ⟨cb,0,none⟩) is.length cp)) (first|go_keep|(refine⟨?_,?_,?_,?_,?_⟩<;>assumption)) (fail)
     all_goals
      try(refine rE _ _ ?_;clear rE K2)
      have H2:=eu (qA.o.alloc (.cells #[.int .i64 n,.slice (some ⟨cb,0,none⟩) is.length cp] 96)).drew;have B2:=eu (gH wr [.int .i64 n,.slice (some ⟨cb,0,none⟩) is.length cp] 96).drew;have F2:Hid (Fr (MB mb wb fv) wr (wr.alloc (.cells #[.int .i64 n,.slice (some ⟨cb,0,none⟩) is.length cp] 96)).drew):=eu ((eU _ _).alloc _).drew;have yF:=eu (gd vq.o F2.o bW.o);have Dl:=eu (qA.o.Su (qP wr.heap.size));generalize(wr.alloc (.cells #[.int .i64 n,.slice (some ⟨cb,0,none⟩) is.length cp] 96)).drew=w2 at H2 B2 F2 yF|-;clear cN Qy c5 bH bT;obtain⟨⟨ws,hf,lo,fr,tp⟩,o,fns⟩:=q;have tj:tp<=1000000:=H2.o.sat.top;have o5:lo<=1000000:=H2.o.sat.low;have Ez:hf<=1000000:=H2.o.sat.half;have cN:=al yF.o 0;have ek:=al B2.o 0;simp at cN ek;have c4:=H2.o.sat.c4;have Sg:=H2.o.sat.Sg;have Ef:=H2.o.sat.blk.frozen 11;simp only at c4 hw;have CE:=eu (λW(hW:qW W mb wb fv ⟨⟨ws,hf,lo,fr,tp⟩,o,fns⟩)=>Vy hW.sat);simp only[OC]at CE;obtain⟨E,hE⟩:∃E,(lo:Int)+(hf:Int)-(tp:Int)=E:=⟨_,rfl⟩;obtain⟨BL,wN⟩:∃BL,E-(n:Int)=BL:=⟨_,rfl⟩;have yg:IntKind.i64.wrap ((lo:Int)+(hf:Int)-(tp:Int))=E:=by rw[Xi _ (by omega)];exact hE
      have tC:IntKind.i64.wrap (E-(n:Int))=BL:=by rw[Xi _ (by omega)];exact wN
      rw[hE,wN]at hw;have iJ:wr.heap.size≠mb:=by have:=qA.o.sat.blk.lt;omega
      have Aw:∀(W:World)(v:Value),(W.setCell ⟨mb,11,none⟩ v).cell? ⟨w.heap.size,0,none⟩=W.cell? ⟨w.heap.size,0,none⟩:=λW v=>QU aH W 0 11 v
      have Ax:∀(W:World)(v:Value),(W.setCell ⟨mb,11,none⟩ v).cell? ⟨mb,4,none⟩=W.cell? ⟨mb,4,none⟩:=λW v=>by apply World.cell?_setCell_other;simp
      have Ay:∀(W:World)(v:Value),(W.setCell ⟨mb,11,none⟩ v).cell? ⟨wr.heap.size,0,none⟩=W.cell? ⟨wr.heap.size,0,none⟩:=λW v=>QU iJ W 0 11 v
      have HW:=eu hw;clear hE wN hw;refine Xh ?_;intro K3 zP
      go_region_held3 (λW=>W.cell? ⟨w.heap.size,0,none⟩=some (.pointer (some ⟨mb,0,none⟩))/\W.cell? ⟨mb,4,none⟩=some (.int .i64 tp)/\W.cell? ⟨wr.heap.size,0,none⟩=some (.int .i64 n)) (first|go_keep|(refine⟨?_,?_,?_⟩<;>first|assumption|(rw[Aw];assumption)|(rw[Ax];assumption)|(rw[Ay];assumption))) ((go_at_call 78;refine(CE.o _ (H2.o.drewN 1)).mono ?_;rintro e w3⟨rfl,k3,bL⟩;have H3:Hid (qW w3 mb wb fv ⟨⟨ws,hf,lo,fr,tp⟩,o,fns⟩):=eu (by rw[bL];exact(H2.o.drewN 1).drewN k3);have F3:Hid (Fr (MB mb wb fv) wr w3):=eu (by rw[bL];exact(F2.o.drewN 1).drewN k3);have Bh:=eu (gd vq.o F3.o bW.o);have B3:Hid (oH w3 wr.heap.size [.int .i64 n,.slice (some ⟨cb,0,none⟩) is.length cp] 96):=eu (by rw[bL];exact B2.o);have d0:=al Bh.o 0;have d1:=al B3.o 0;simp at d0 d1;have d4:=H3.o.sat.c4;simp only at d4;have d11:=H3.o.sat.Sg;have df:=H3.o.sat.blk.frozen 11;clear bL))
      all_goals
       try(refine zP _ _ ?_;clear zP K3)
       have f4:Fr (M2 mb wb) w3 (w3.setCell ⟨mb,11,none⟩ (.int .i64 BL)):=(eU _ _).set _ _ (.inl (.inl rfl));have H4:Hid (qW (w3.setCell ⟨mb,11,none⟩ (.int .i64 BL)) mb wb fv ⟨⟨ws,hf,lo,fr,tp⟩,{ o with below:=BL },fns⟩):=eu ⟨H3.o.sat.zv5 BL,H3.o.OS.fr f4,H3.o.fl,H3.o.fuel⟩;have F4:=eu (F3.o.trans (f4.MD fv));have B4:=eu (gd B3.o (f4.MD fv) Dl.o);clear f4;generalize w3.setCell ⟨mb,11,none⟩ (.int .i64 BL)=w4 at H4 F4 B4|-;clear cN ek c4 Sg Ef d0 d1 d4 d11 df Aw Ax Ay yg tC;have ek:=al B4.o 0;have gG:=al B4.o 1;simp at ek gG;refine Xh ?_;intro K4 zQ;go_wp2_with fail;refine(zit n cb is.length cp _).mono ?_;rintro e w5⟨rfl,dK⟩;have H5:Hid (qW w5 mb wb fv ⟨⟨ws,hf,lo,fr,tp⟩,{ o with below:=BL },fns⟩):=eu (by rw[dK];exact(H4.o.alloc _).alloc _);have F5:Hid (Fr (MB mb wb fv) wr w5):=eu (by rw[dK];exact(F4.o.alloc _).alloc _);have B5:Hid (oH w5 (w4.heap.size+1) [.slice (some ⟨cb,0,none⟩) is.length cp] 94):=eu (by
        rw[dK];have:=gH (w4.alloc (.cells #[.int .i64 n,.slice (some ⟨cb,0,none⟩) is.length cp] 96)) [.slice (some ⟨cb,0,none⟩) is.length cp] 94
        rwa [gM]at this)
       have uZ:=eu (gd vq.o F5.o bW.o);have zm:=eu (y5.o.fr F5.o (λk hk=>HH.o.Su hk));clear dK ek gG;go_wp2_with fail
       try(refine zQ _ _ ?_;clear zQ K4)
       have aK:=HC.o.kD;obtain⟨rr,nZ,eW⟩:∃rr,l0.Nb (cd.map Prod.fst) is ⟨⟨ws,hf,lo,fr,tp⟩,{ o with below:=BL },fns⟩=some rr/\(match rr with|.error k=>some (.error k)|.ok m2=>l0.work cd k m2)=some r:=by
        have h1:=HW.o;cases h2:l0.Nb (cd.map Prod.fst) is ⟨⟨ws,hf,lo,fr,tp⟩,{ o with below:=BL },fns⟩with
        |none=>rw[h2]at h1;cases h1
        |some rr=>rw[h2]at h1;refine⟨rr,rfl,?_⟩;cases rr<;>exact h1
       have dK:w.heap.size<=w5.heap.size:=yM cY.o.size F5.o.size;have Fv:wr.heap.size<=w4.heap.size:=F4.o.size;obtain⟨J,hJ⟩:∃J:Nat->World->Prop,∀i W,J i W↔(∃q':l0,qW W mb wb fv q'/\q'.o.pb=m.o.pb/\l0.Nb (cd.map Prod.fst) (is.drop i) q'=some rr/\Fr (MB mb wb fv) w5 W):=⟨_,λ_ _=>P2⟩;obtain⟨Jx,wS⟩:∃Jx:List PanicEntry->World->Prop,∀ch W,Jx ch W↔(∃j,rr=.error j/\ch=[{ v:=.iface 82 (.int .i64 j),recovered:=false }]/\(∃m',qW W mb wb fv m')/\Fr (MB mb wb fv) w5 W):=⟨_,λ_ _=>P2⟩;have HJ:=eu hJ;have vF:=eu wS;clear hJ wS;refine zks (zuT (vs:=vs) (Bn:=w4.heap.size+1) (cb:=cb) (cap:=cp) rfl (by omega) J Jx
        ?hall ?hput ?h0 ?hJc ?hround ?hdone ?hpan)
       case hall=>intro i W o' hW;obtain⟨q',h1,h2,h3,h4⟩:=(HJ.o i W).1 hW;exact(HJ.o i _).2 ⟨q',h1.alloc _,h2,h3,h4.alloc _⟩
       case hput=>intro i W l x o' hW hl hx hc;obtain⟨q',h1,h2,h3,h4⟩:=(HJ.o i W).1 hW;exact(HJ.o i _).2 ⟨q',h1.putObj hx hc _,h2,h3,h4.putObj _ hl⟩
       case h0=>exact(HJ.o 0 _).2 ⟨_,H5.o,lV.o,by rw[Sb];exact nZ,eU _ _⟩
       case hJc=>
        intro i W hW;obtain⟨q',h1,h2,h3,h4⟩:=(HJ.o i W).1 hW;refine⟨?_,λj v hv=>?_⟩
        .rw[dJ];simpa using al (gd B5.o h4 (H4.o.Su)) 0
        .have gT:=(Dq.1 hv).1;obtain⟨x,hx⟩:∃x,is[j]?=some x:=⟨_,Iv (by omega)⟩;obtain⟨v',dZ,iW,_⟩:=qw.o j x hx;rw[hv]at dZ;cases dZ;exact(kI (a:=⟨cb,j,none⟩) (w:=wr) ((F5.o.trans h4).block cb jl lY)).trans iW
       case hdone=>
        intro W hW hD;obtain⟨q',h1,h2,h3,h4⟩:=(HJ.o _ W).1 hW;rw[XC (by omega)]at h3;obtain rfl:=J8 h3;refine ga.o _ _ ⟨k,Nat.lt_succ_self k,_,_,_,_,_,_,_,_,_,_,_,_,_,_,_,_,_,_,_,_,_,_,_,_,_,_,_,_,_,_,_,_,_,_,_,_,_,_,_,_,_,_,_,q',rfl,h1,h2,eW,(cY.o.trans F5.o).trans h4,gd uZ.o h4 bW.o,?_⟩;obtain⟨ds,e1,e2,e3⟩:=zm.o;refine⟨w5.heap.size::ds,by rw[e1];rfl,Wl.2 ⟨λhd=>?_,e2⟩,λd hd=>?_⟩
        .have:=(Nz.1 (e3 _ hd).2).1;omega
        .rcases Mz.1 hd with rfl|hd
         .exact⟨dK,hD⟩
         .exact⟨(e3 d hd).1,(h4.block d (Nz.1 (e3 d hd).2).1 (HH.o.Su (e3 d hd).1)).trans (e3 d hd).2⟩
       case hpan=>
        intro ch W hW hD;obtain⟨j,rfl,rfl,⟨m',fO⟩,h4⟩:=(vF.o ch W).1 hW;obtain rfl:=J8 eW;show Q _ _ _;rw[<-HQ.o];refine Vh (base:=w.heap.size) (I:=λW=>Fr (MB mb wb fv) w W/\qW W mb wb fv m') (by simp) (λW d hW hd iX=>⟨hW.1.putObj _ hd,hW.2.putObj iX (by simp) _⟩) (λW hW=>?_) ?_ ⟨(cY.o.trans F5.o).trans h4,fO⟩
        .exact⟨hW.1,rfl,m',hW.2⟩
        .obtain⟨ds,e1,e2,e3⟩:=zm.o;refine⟨w5.heap.size::ds,by rw[e1];rfl,Wl.2 ⟨λhd=>?_,e2⟩,λd hd=>?_⟩
         .have:=(Nz.1 (e3 _ hd).2).1;omega
         .rcases Mz.1 hd with rfl|hd
          .exact⟨dK,hD⟩
          .exact⟨(e3 d hd).1,(h4.block d (Nz.1 (e3 d hd).2).1 (HH.o.Su (e3 d hd).1)).trans (e3 d hd).2⟩
       case hround=>
        intro l i v W DW hv;have br:i<is.length:=by have:=(Dq.1 hv).1;omega
        obtain⟨x,hx⟩:∃x,is[i]?=some x:=⟨_,Iv br⟩;obtain⟨v',dZ,iW,Ap⟩:=qw.o i x hx;rw[hv]at dZ;cases dZ;have Cg:=eu Ap;have BJ:Hid (∀(W2:World)(q':l0),l0.Nb (cd.map Prod.fst) (is.drop i) q'=some rr->(match q'.SM with|.error k=>some (.error k)|.ok m1=>match m1.step (cd.map Prod.fst) x with|none=>none|some (.error k)=>some (.error k)|some (.ok m2)=>l0.Nb (cd.map Prod.fst) (is.drop (i+1)) m2)=some rr):=eu (by
         intro W2 q' hq
         rwa [Q2 br,show is[i]=x from(Dq.1 hx).2,l0.Nb]at hq)
        have iw:=eu aK;have ui:=eu (kK nZ eW);clear DW Ap hv hx iW aK nZ eW;simp only[MV,NK,Nh]
        gi_wp2
        refine⟨trivial,?_⟩;intro W2 h2 hD ma;obtain⟨q',hm,iN,dI,ak⟩:=(HJ.o i W2).1 h2;have eA:=BJ.o W2 q' dI;have cN:W2.cell? ⟨w.heap.size,0,none⟩=some (.pointer (some ⟨mb,0,none⟩)):=by simpa using al (gd uZ.o ak bW.o) 0
        have vG:Hid (∀W3,Fr (MB mb wb fv) W2 W3->W3.heap[w5.heap.size]?=W2.heap[w5.heap.size]?/\W3.heap[w5.heap.size+1]?=W2.heap[w5.heap.size+1]?):=eu (by intro W3 f3;obtain⟨rl,bd⟩:=ma;exact⟨f3.block _ (Nz.1 hD).1 (HH.o.Su),f3.block _ (Nz.1 bd).1 (HH.o.Su)⟩)
        have HM:=eu hm;have vM:=eu iN;have mz:=eu ak;have CB:=eu (zl7 hm);have vr:=eu (gd uZ.o ak bW.o);clear hm iN dI ak h2 hD ma
        gi_wp2
        refine⟨trivial,rfl,(Yi CB.o).mono ?_⟩;cases ek:q'.SM with
        |error j=>rw[ek]at eA;rintro e w6⟨f6,rfl,h6⟩;exact⟨rfl,(vF.o _ _).2 ⟨j,(J8 eA).symm,rfl,h6,mz.o.trans f6⟩,(vG.o _ f6).1⟩
        |ok m1=>
         rw[ek]at eA;simp only at eA;rintro e w6⟨f6,rfl,h6⟩;have Ec:w6.cell? ⟨w.heap.size,0,none⟩=some (.pointer (some ⟨mb,0,none⟩)):=by simpa using al (gd vr.o f6 bW.o) 0
         obtain⟨q2,dY⟩:∃q2,m1.step (cd.map Prod.fst) x=some q2:=by
          cases dY:m1.step (cd.map Prod.fst) x with
          |none=>rw[dY]at eA;cases eA
          |some q2=>exact⟨q2,rfl⟩
         rw[dY]at eA;have o8:m1.o.pb=m.o.pb:=(zxb ek).trans vM.o;have CS:=eu (zwn h6 (by rw[o8];exact iw.o.fr (((cY.o.trans F5.o).trans mz.o).trans f6)) (Cg.o.fr ((F5.o.trans mz.o).trans f6)) dY);have F6:=eu (mz.o.trans f6);have yK:=eu f6;have pK:=eu dY;have vN:=eu o8;have qG:=eu eA;clear cN f6 h6 dY o8 eA ek
         gi_wp2
         refine⟨trivial,rfl,(Yi CS.o).mono ?_⟩;cases q2 with
         |error j=>rintro e w7⟨f7,rfl,h7⟩;exact⟨rfl,(vF.o _ _).2 ⟨j,(J8 qG.o).symm,rfl,h7,F6.o.trans f7⟩,(vG.o _ (yK.o.trans f7)).1⟩
         |ok m2=>
          rintro e w7⟨f7,rfl,h7⟩;have H7:=eu h7;have F7:=eu f7;clear Ec f7 h7
          gi_wp2
          exact⟨(HJ.o _ _).2 ⟨m2,H7.o,(zxT pK.o).trans vN.o,qG.o,F6.o.trans F7.o⟩,vG.o _ (yK.o.trans F7.o)⟩
end
section
open Go.RowKit Go.Shelf
attribute [local go_sem] Oper.semAt_some
theorem znr(sp:Option Addr)(n cap:Nat)(w:World):Calls prog 212 #[.slice sp n cap] w λe w'=>
  e=.returned (.func (.func 257) #[] #[.pointer (some ⟨w.heap.size,0,none⟩)])/\w'=w.alloc (.cells #[.slice sp n cap] 38):=by
 go_enter func212,ntmps212;go_wp2;go_ret;exact⟨rfl,rfl⟩
theorem znq(l Bn cap:Nat)(sp:Option Addr)(g:Nat)(vs:List Value)(dJ:vs.length<=1000000000)(eB:0<vs.length->sp=some ⟨g,0,none⟩)(J:Nat->World->Prop)(Jr:World->Prop)(hY:∀k c v W,J k W->c+1+k=vs.length->vs[c]?=some v->YieldAt Fence.wide 0 prog l #[.int .i64 c,v] W λe W'=>(e=.returned (.bool true)/\J (k+1) W')\/(e=.returned (.bool false)/\Jr W'))(hJc:∀k W,J k W->W.cell? ⟨Bn,0,none⟩=some (.slice sp vs.length cap)/\∀j v,vs[j]?=some v->W.cell? ⟨g,j,none⟩=some v)(W:World)(h0:J 0 W):
  CallsIn Fence.wide 1 prog 257 #[.func (.yield l) #[] #[],.pointer (some ⟨Bn,0,none⟩)] W λe W'=>∃v,e=.returned v/\(J vs.length W'\/Jr W'):=by
 have HY:=eu hY;have lT:=eu hJc;clear hY hJc;have c0:=(lT.o 0 W h0).1;have qx:=eu h0;clear h0;have aD:IntKind.i64.wrap ((vs.length:Int)-1)=(vs.length:Int)-1:=Xi _ (by omega);refine Jg func257 rfl trivial ?_ rfl;simp only[ntmps257,O3,Kh,My,Nat.reduceAdd,Nat.reduceSub,QX,QY,Q0,QZ,MQ,MP]
 gi_wp2
 gi_loopw [3] (λi wr=>∃c k:Nat,i=.int .i64 ((c:Int)-1)/\c+k=vs.length/\Hid (J k wr)) (λi _=>(intOf i+1).toNat)
 case atStart=>exact⟨vs.length,0,rfl,by omega,qx⟩
 case round=>
  obtain⟨c,k,rfl,rW,hJ⟩:=hrel;cases c with
  |zero=>
   have nQ:k=vs.length:=by omega
   have iu:Hid (J vs.length wr):=by rw[<-nQ];exact hJ
   have dV:¬(0:Int)<=-1:=by omega
   clear nQ c0
   gi_wp2
   first|go_end0|refine Ju rfl rfl ?_
   first|exact⟨⟨_,rfl⟩,.inl iu.o⟩|exact⟨_,rfl,.inl iu.o⟩
  |succ c=>
   have e1:((c+1:Nat):Int)-1=(c:Int):=by omega
   rw[e1];obtain⟨v,hv⟩:∃v,vs[c]?=some v:=⟨_,Iv (by omega)⟩;have pU:(0:Int)<=(c:Int):=by omega
   have bH:(c:Int)<(vs.length:Int):=by omega
   have cv:=(lT.o k wr hJ.o).2 c v hv;have cb:=(lT.o k wr hJ.o).1;rw[eB (by omega)]at cb;obtain⟨fn,tmps,assign,body,hy,hR⟩:=HY.o k c v wr hJ.o (by omega) hv;have HR:=eu hR;clear hR hv c0
   gi_wp2
   refine HR.o.mono ?_;rintro e w3(⟨rfl,gP⟩|⟨rfl,hx⟩)
   .have iu:=eu gP;clear gP hy HR cv cb
    gi_wp2
    go_roundw
    case rel=>exact⟨c,k+1,by go_num,by omega,iu⟩
    case measure=>
     first|(simp[intOf];done)|(simp[intOf];omega)
   .have HX:=eu hx;clear hx hy HR cv cb
    gi_wp2
    first|go_end0|refine Ju rfl rfl ?_
    first|exact⟨⟨_,rfl⟩,.inr HX.o⟩|exact⟨_,rfl,.inr HX.o⟩
theorem zsD(sp:Option Addr)(n cap:Nat)(w:World):Calls prog 144 #[.slice sp n cap] w λe w'=>
  e=.returned (.func (.func 210) #[] #[.pointer (some ⟨w.heap.size,0,none⟩)])/\w'=w.alloc (.cells #[.slice sp n cap] 278):=by
 go_enter func144,ntmps144;go_wp2;go_ret;exact⟨rfl,rfl⟩
theorem zsC(l Bn cap:Nat)(sp:Option Addr)(g:Nat)(vs:List Value)(dJ:vs.length<=1000000000)(eB:0<vs.length->sp=some ⟨g,0,none⟩)(J:Nat->World->Prop)(Jr:World->Prop)(hY:∀k c v W,J k W->c+1+k=vs.length->vs[c]?=some v->YieldAt Fence.wide 0 prog l #[.int .i64 c,v] W λe W'=>(e=.returned (.bool true)/\J (k+1) W')\/(e=.returned (.bool false)/\Jr W'))(hJc:∀k W,J k W->W.cell? ⟨Bn,0,none⟩=some (.slice sp vs.length cap)/\∀j v,vs[j]?=some v->W.cell? ⟨g,j,none⟩=some v)(W:World)(h0:J 0 W):
  CallsIn Fence.wide 1 prog 210 #[.func (.yield l) #[] #[],.pointer (some ⟨Bn,0,none⟩)] W λe W'=>∃v,e=.returned v/\(J vs.length W'\/Jr W'):=by
 have HY:=eu hY;have lT:=eu hJc;clear hY hJc;have c0:=(lT.o 0 W h0).1;have qx:=eu h0;clear h0;have aD:IntKind.i64.wrap ((vs.length:Int)-1)=(vs.length:Int)-1:=Xi _ (by omega);refine Jg func210 rfl trivial ?_ rfl;simp only[ntmps210,O3,Kh,My,Nat.reduceAdd,Nat.reduceSub,QX,QY,Q0,QZ,MQ,MP]
 gi_wp2
 gi_loopw [3] (λi wr=>∃c k:Nat,i=.int .i64 ((c:Int)-1)/\c+k=vs.length/\Hid (J k wr)) (λi _=>(intOf i+1).toNat)
 case atStart=>exact⟨vs.length,0,rfl,by omega,qx⟩
 case round=>
  obtain⟨c,k,rfl,rW,hJ⟩:=hrel;cases c with
  |zero=>
   have nQ:k=vs.length:=by omega
   have iu:Hid (J vs.length wr):=by rw[<-nQ];exact hJ
   have dV:¬(0:Int)<=-1:=by omega
   clear nQ c0
   gi_wp2
   first|go_end0|refine Ju rfl rfl ?_
   first|exact⟨⟨_,rfl⟩,.inl iu.o⟩|exact⟨_,rfl,.inl iu.o⟩
  |succ c=>
   have e1:((c+1:Nat):Int)-1=(c:Int):=by omega
   rw[e1];obtain⟨v,hv⟩:∃v,vs[c]?=some v:=⟨_,Iv (by omega)⟩;have pU:(0:Int)<=(c:Int):=by omega
   have bH:(c:Int)<(vs.length:Int):=by omega
   have cv:=(lT.o k wr hJ.o).2 c v hv;have cb:=(lT.o k wr hJ.o).1;rw[eB (by omega)]at cb;obtain⟨fn,tmps,assign,body,hy,hR⟩:=HY.o k c v wr hJ.o (by omega) hv;have HR:=eu hR;clear hR hv c0
   gi_wp2
   refine HR.o.mono ?_;rintro e w3(⟨rfl,gP⟩|⟨rfl,hx⟩)
   .have iu:=eu gP;clear gP hy HR cv cb
    gi_wp2
    go_roundw
    case rel=>exact⟨c,k+1,by go_num,by omega,iu⟩
    case measure=>
     first|(simp[intOf];done)|(simp[intOf];omega)
   .have HX:=eu hx;clear hx hy HR cv cb
    gi_wp2
    first|go_end0|refine Ju rfl rfl ?_
    first|exact⟨⟨_,rfl⟩,.inr HX.o⟩|exact⟨_,rfl,.inr HX.o⟩
def V2 (B:Nat) (J:Nat->World->Prop) (Jr:World->Prop) (i:Nat) (W2:World):Exit->Act->World->Prop
 |.normal,_,W3=>J (i+1) W3/\W3.heap[B]?=W2.heap[B]?/\W3.heap[B+1]?=W2.heap[B+1]?
 |.ret,_,W3=>Jr W3/\W3.heap[B]?=W2.heap[B]?/\W3.heap[B+1]?=W2.heap[B+1]?
 |_,_,_=>False
def Iter (gf Bn cap:Nat) (sp:Option Addr) (g:Nat) (vs:List Value):Prop:=
 ∀(l:Nat)(J:Nat->World->Prop)(Jr:World->Prop),
  (∀k c v W,J k W->c+1+k=vs.length->vs[c]?=some v->YieldAt Fence.wide 0 prog l #[.int .i64 c,v] W λe W'=>(e=.returned (.bool true)/\J (k+1) W')\/(e=.returned (.bool false)/\Jr W')) ->
  (∀k W,J k W->W.cell? ⟨Bn,0,none⟩=some (.slice sp vs.length cap)/\∀j v,vs[j]?=some v->W.cell? ⟨g,j,none⟩=some v) ->
  ∀W:World,J 0 W->CallsIn Fence.wide 1 prog gf #[.func (.yield l) #[] #[],.pointer (some ⟨Bn,0,none⟩)] W λe W'=>∃v,e=.returned v/\(J vs.length W'\/Jr W')
variable {w:World}{cap:Nat}
theorem zp9{p1 p2 gf:Nat}{g:Operand}{assign body:Code}{Q:Exit->Act->World->Prop}{a:Act}{Bn gb:Nat}{sp:Option Addr}{vs:List Value}(eg:∀args w,(callFunc gf args).run prog w=.ok (.enter gf args) w)(l9:Iter gf Bn cap sp gb vs)(hg:a.eval g=.func (.func gf) #[] #[.pointer (some ⟨Bn,0,none⟩)])(J:Nat->World->Prop)(Jr:World->Prop)(hall:∀i W o,J i W->J i (W.alloc o))(hput:∀i W l x o,J i W->w.heap.size<=l->W.heap[l]?=some x->(∀cs t f,x≠.cells cs t f)->J i (W.putObj l o))(hputr:∀W l x o,Jr W->w.heap.size<=l->W.heap[l]?=some x->(∀cs t f,x≠.cells cs t f)->Jr (W.putObj l o))(h0:J 0 w)(hJc:∀i W,J i W->W.cell? ⟨Bn,0,none⟩=some (.slice sp vs.length cap)/\∀j v,vs[j]?=some v->W.cell? ⟨gb,j,none⟩=some v)(hround:∀l i c v W,J i W->c+1+i=vs.length->vs[c]?=some v->assign.wpIn (Fence.wide.inRound l) 0 prog (Exit.then (λa₁ W₁=>W₁=W/\∀W2,J i W2->W2.heap[w.heap.size]?=some (.deferred (some []))->(∃r,W2.heap[w.heap.size+1]?=some (.loop r)) ->
   body.wpIn (Fence.wide.inRound l) 0 prog (V2 w.heap.size J Jr i W2) a₁ W2) (λ_ _ _=>False)) { tmps:=(a.tmps.setIfInBounds p1 (.int .i64 c)).setIfInBounds p2 v,defers:=[] } W)(hdone:∀W,J vs.length W->W.heap[w.heap.size]?=some (.deferred (some []))->Q .normal { a with defers:={ target:=.collected w.heap.size,args:=#[] }::a.defers } W)(hret:∀W,Jr W->W.heap[w.heap.size]?=some (.deferred (some []))->Q .ret { a with defers:={ target:=.collected w.heap.size,args:=#[] }::a.defers } W):
  (Code.rangeFunc g #[p1,p2] assign body).wp prog Q a w:=by
 refine(wpIn_wide (n:=2)).1 (wpIn_rangeFunc ?_);intro fn fj;obtain⟨rec,de⟩:∃rec:LoopState->Option Code->Loop,rec=λst pe=>{ state:=st,pending:=pe,fn,tmps:=a.tmps,params:=#[p1,p2],assign,body,defers:=w.heap.size }:=⟨_,rfl⟩
 obtain⟨W1,eG⟩:∃W1,(w.alloc (.deferred (some []))).alloc (.loop (rec .ready none))=W1:=⟨_,rfl⟩;have wV:W1.heap[w.heap.size+1]?=some (.loop (rec .ready none)):=by rw[<-eG];have:=World.alloc_heap_new (w.alloc (.deferred (some []))) (.loop (rec .ready none));rwa [gM]at this
 have oN:W1.heap[w.heap.size]?=some (.deferred (some [])):=by rw[<-eG];exact(Below.heap_alloc _ _ _ (by simp)).trans (World.alloc_heap_new w _)
 have wQ:J 0 W1:=by rw[<-eG];exact hall _ _ _ (hall _ _ _ h0)
 refine⟨w.heap.size+1,[{ target:=.collected w.heap.size,args:=#[] }],W1,{ target:=.fn (.func gf) #[.pointer (some ⟨Bn,0,none⟩)],args:=#[.func (.yield (w.heap.size+1)) #[] #[]] },W1,gf,
  #[.func (.yield (w.heap.size+1)) #[] #[],.pointer (some ⟨Bn,0,none⟩)],W1,?_,?_,?_,?_,λ_=>by omega,?_⟩
 .rw[<-eG,de];exact run_enterLoop_outer _ _ _ _ _
 .simp only[resolve,hg];simp[go_sem]
 .intro f' dr;trivial
 .simp[invoke,go_sem,eg]
 .refine CallsIn.mono (l9 (w.heap.size+1) (λi W=>J i W/\W.heap[w.heap.size+1]?=some (.loop (rec .ready none))/\W.heap[w.heap.size]?=some (.deferred (some [])))
   (λW=>Jr W/\W.heap[w.heap.size+1]?=some (.loop (rec .done (some .ret)))/\W.heap[w.heap.size]?=some (.deferred (some []))) ?_ (λi W hW=>hJc i W hW.1) W1 ⟨wQ,wV,oN⟩) ?_
  .rintro i c v W⟨hi,hl,hk⟩oU hv;have aj:w.heap.size+1<W.heap.size:=(Nz.1 hl).1;have hy:=run_yield (P:=prog) (args:=#[.int .i64 c,v]) hl (by rw[de];rfl);rw[de]at hy;have et:(((#[p1,p2]:Array Tmp).zip #[.int .i64 c,v]).foldl (λtmps(t,a)=>tmps.setIfInBounds t a) a.tmps)=(a.tmps.setIfInBounds p1 (.int .i64 c)).setIfInBounds p2 v:=by simp
   simp only at hy;rw[et]at hy;refine⟨fn,_,assign,body,hy,roundIn_of_wpIn trivial ?_⟩;have hr:=hround (w.heap.size+1) i c v W hi oU hv;refine wpIn_mono hr ?_;rintro e a1 oG hp;cases e with
   |normal=>
    obtain⟨rfl,iE⟩:=hp;refine⟨_,run_beginRound hl (by rw[de]),?_⟩;have aC:(oG.putObj (w.heap.size+1) (.loop { rec .ready none with state:=.busy })).heap[w.heap.size+1]?=some (.loop { rec .ready none with state:=.busy }):=World.putObj_heap_same aj;have aG:(oG.putObj (w.heap.size+1) (.loop { rec .ready none with state:=.busy })).heap[w.heap.size]?=some (.deferred (some [])):=(World.putObj_heap_other (by omega)).trans hk;refine wpIn_mono (iE _ (hput i oG _ _ _ hi (by omega) hl (by simp)) aG ⟨_,aC⟩) ?_;rintro e3 a3 W3 j4;cases e3 with
    |normal=>obtain⟨gP,dG,cW⟩:=j4;rw[aG]at dG;rw[aC]at cW;have cJ:=run_endRound (P:=prog) none cW;refine⟨_,_,cJ,.inl ⟨rfl,hput _ W3 _ _ _ gP (by omega) cW (by simp),?_,(World.putObj_heap_other (by omega)).trans dG⟩⟩;rw[World.putObj_heap_same (Nz.1 cW).1,de];rfl
    |ret=>obtain⟨gP,dG,cW⟩:=j4;rw[aG]at dG;rw[aC]at cW;have cJ:=run_endRound (P:=prog) (some .ret) cW;refine⟨_,_,cJ,.inr ⟨rfl,hputr W3 _ _ _ gP (by omega) cW (by simp),?_,(World.putObj_heap_other (by omega)).trans dG⟩⟩;rw[World.putObj_heap_same (Nz.1 cW).1,de];rfl
    |panic ch=>exact j4.elim
    |exit id=>exact j4.elim
    |goto t=>exact j4.elim
    |outgrown=>exact j4.elim
   |panic ch=>exact hp.elim
   |ret=>exact hp.elim
   |exit id=>exact hp.elim
   |goto t=>exact hp.elim
   |outgrown=>exact hp.elim
  .rintro e W2⟨v,rfl,(⟨hi,hl,hk⟩|⟨hx,hl,hk⟩)⟩
   .exact⟨none,_,by have:=run_endLoop (P:=prog) hl (by rw[de];simp);rw[de]at this;exact this,hdone _ (hput _ _ _ _ _ hi (by omega) hl (by simp)) ((World.putObj_heap_other (by omega)).trans hk)⟩
   .refine⟨some .ret,_,by have:=run_endLoop (P:=prog) hl (by rw[de];simp);rw[de]at this;exact this,?_⟩;exact wpIn_wide.2 (wp_ret (hret _ (hputr _ _ _ _ hx (by omega) hl (by simp)) ((World.putObj_heap_other (by omega)).trans hk)))
end
section
open Go.RowKit
theorem zxq:(prog.info? 2).map (λi=>(i.zero,i.size,i.bytes))=some (some (.int .i64 0),1,8):=by kernel_rfl
def Qp (base:Nat) (fv:Value):Prop:=∀k,fv.ownBlock=some k->base<=k
variable {mb wb:Nat}{fv:Value}{a b:World}
theorem Fr.VN{c:World}(h:Fr (M2 mb wb) a b)(k:Fr (MB mb wb fv) b c)(hf:Qp a.heap.size fv):Fr (M2 mb wb) a c:=
 ⟨k.os.trans h.os,k.tape.trans h.tape,k.output.trans h.output,yM h.size k.size,λi hi hK=>(k.block i (Kl hi h.size) (by
  rintro(h1|h1|h1)
  .exact hK (.inl h1)
  .exact hK (.inr h1)
  .have:=hf i h1;omega)).trans (h.block i hi hK)⟩
variable {w:World}{base:Nat}{fns:List Int}
theorem PR.owns(h:PR w mb wb fns fv)(hf:Qp base fv):w.ownsRow base 2 1 fv fns.length (MG fns):=by
 rcases h with⟨rfl,rfl⟩|⟨fb,cap,sp,rfl,⟨h1,_,_⟩,h4,h5⟩
 .exact⟨rfl,.inl ⟨rfl,rfl⟩⟩
 .refine⟨by simp[Rb],.inr ⟨fb,cap,(MG fns++sp).toArray,rfl,hf fb rfl,h1,by omega,h5,by simp[Rb];omega,?_⟩⟩;simp[Rb]
variable {g cap:Nat}
theorem ztK(h:w.ownsRow base 2 1 (.slice (some ⟨g,0,none⟩) fns.length cap) fns.length (MG fns))(hm:g≠mb)(hw:g≠wb):PR w mb wb fns (.slice (some ⟨g,0,none⟩) fns.length cap):=by
 rcases h.2 with⟨h1,_⟩|⟨g',dU,cur,h1,h2,h3,h4,h5,h6,h7⟩
 .cases h1
 .simp only[Value.slice.injEq,IA,Addr.mk.injEq,true_and,and_true]at h1;obtain⟨rfl,rfl⟩:=h1;refine .inr ⟨g,cap,cur.toList.drop fns.length,rfl,⟨?_,hm,hw⟩,?_,h5⟩
  .unfold oH;rw[h3,<-h7,S8,U5]
  .have e1:cur.toList.length=cur.size:=SX;have e2:(cur.toList.drop fns.length).length=cur.toList.length-fns.length:=Oo;omega
variable {o:SR}{s:nG}
theorem qS.zyv(h:qS w mb wb (MU o fv) s)(v:Value):qS (w.setCell ⟨mb,8,none⟩ v) mb wb (MU o v) s:=
 ⟨h.blk.set 8 v,h.MX.other _ _ h.ne.symm,h.ne,h.len,h.half,h.low,h.free,h.top⟩
theorem qS.grown{w w':World}{mb wb:Nat}{tl:List Value}{s:nG}{row:Option Nat}(h:qS w mb wb tl s)(hg:w.grownBy w' row)(h1:some mb≠row)(h2:some wb≠row):qS w' mb wb tl s:=
 ⟨h.blk.grown hg h1,h.MX.grown hg h2,h.ne,h.len,h.half,h.low,h.free,h.top⟩
theorem PR.zyr(h:PR w mb wb fns fv):some mb≠fv.ownBlock/\some wb≠fv.ownBlock:=by
 rcases h with⟨rfl,rfl⟩|⟨fb,cap,sp,rfl,⟨_,h2,h3⟩,_⟩
 .simp[Value.ownBlock]
 .simp only[Value.ownBlock,ne_eq,IA];exact⟨λe=>h2 e.symm,λe=>h3 e.symm⟩
variable {w':World}{jB:Value}
theorem SD.mv{av:Value}{nA:List (Nat × Nat × Nat)}(h:SD w mb wb fv av nA)(f:Fr (M2 mb wb) w w')(hf:Qp w.heap.size jB):SD w' mb wb jB av nA:=by
 obtain⟨ab,cap,h1,h2,h3,hl,h4⟩:=h;have hm:¬M2 mb wb ab:=λe=>h3 (by rcases e with e|e;exact .inl e;exact .inr (.inl e))
 refine⟨ab,cap,h1,Kl h2 f.size,?_,hl,λi t c b hi=>?_⟩
 .rintro(e|e|e)
  .exact hm (.inl e)
  .exact hm (.inr e)
  .have:=hf ab e;omega
 .have e:∀j,w'.cell? ⟨ab,j,none⟩=w.cell? ⟨ab,j,none⟩:=λj=>kI (w:=w) (f.block ab h2 hm)
  rw[e,e,e];exact h4 i t c b hi
theorem Sd.mv{w w':World}{mb wb:Nat}{fv jB v:Value}{i:Ds}(h:Sd w mb wb fv v i)(f:Fr (M2 mb wb) w w')(hf:Qp w.heap.size jB):Sd w' mb wb jB v i:=by cases i<;>first|exact h|(obtain⟨av,h1,h2⟩:=h;exact⟨av,h1,h2.mv f hf⟩)
theorem zmz{k:Nat}(h3:¬MB mb wb fv k)(hk:k<w.heap.size)(hf:Qp w.heap.size jB):¬MB mb wb jB k:=by
 rintro(e|e|e)
 .exact h3 (.inl e)
 .exact h3 (.inr (.inl e))
 .have:=hf k e;omega
variable {pv:Value}{sl:List Nat}
theorem O4.mv(h:O4 w mb wb fv pv sl)(f:Fr (M2 mb wb) w w')(hf:Qp w.heap.size jB):O4 w' mb wb jB pv sl:=by
 obtain⟨pb,cap,h1,h2,h3,h4⟩:=h;have hm:¬M2 mb wb pb:=λe=>h3 (by rcases e with e|e;exact .inl e;exact .inr (.inl e))
 refine⟨pb,cap,h1,Kl h2 f.size,zmz h3 h2 hf,λi n hi=>⟨(h4 i n hi).1,?_⟩⟩;rw[kI (w:=w) (f.block pb h2 hm)];exact(h4 i n hi).2
variable {m m':l0}{c:Nat}
theorem zxz(h:m.M8 c=some (.ok m')):m'.fns.length=m.fns.length:=by
 unfold l0.M8 at h;split at h
 .cases h;rfl
 .split at h
  .cases h
  .next hc=>
   split at h
   .cases h
   .cases h;exact zlh hc
theorem Q4.mv{w w':World}{mb wb:Nat}{fv jB pv:Value}{cd:List (Nat × List Ds)}(h:Q4 w mb wb fv pv cd)(f:Fr (M2 mb wb) w w')(hf:Qp w.heap.size jB):Q4 w' mb wb jB pv cd:=by
 obtain⟨pb,cap,h1,h2,h3,h4⟩:=h;have m2:∀k,¬MB mb wb fv k->¬M2 mb wb k:=λk hk e=>hk (by rcases e with e|e;exact .inl e;exact .inr (.inl e))
 refine⟨pb,cap,h1,Kl h2 f.size,zmz h3 h2 hf,λi n is hi=>?_⟩;obtain⟨a1,a2,a3,cb,cp,vs,b1,b2,b3,b4,b5⟩:=h4 i n is hi;have e:∀j,w'.cell? ⟨pb,j,none⟩=w.cell? ⟨pb,j,none⟩:=λj=>kI (w:=w) (f.block pb h2 (m2 _ h3))
 have e2:∀j,w'.cell? ⟨cb,j,none⟩=w.cell? ⟨cb,j,none⟩:=λj=>kI (w:=w) (f.block cb b2 (m2 _ b3))
 refine⟨a1,a2,by rw[e];exact a3,cb,cp,vs,by rw[e];exact b1,Kl b2 f.size,zmz b3 b2 hf,b4,λj x hj=>?_⟩;obtain⟨v,c1,c2,c3⟩:=b5 j x hj;exact⟨v,c1,by rw[e2];exact c2,c3.mv f hf⟩
end
section
open Go.RowKit
attribute [local go_sem ↓] Go.wp_at_zero Go.wp_at_succ
def l0.NF:Nat->Nat->l0->Option (Except Nat l0)
 |_,0,m=>some (.ok m)
 |i,k+1,m=>Nj (m.M8 1) λm1=>
  match m1.s.node (Hd 2 i 0) []with
  |none=>none
  |some s2=>l0.NF (i+1) k { m1 with s:=s2,fns:=m1.fns++[(m1.s.free:Int)] }
def l0.start (m:l0) (sl:List Nat):Option (Except Nat l0):=
 match l0.NF 0 m.o.nf.toNat m with
 |none=>none
 |some (.error k)=>some (.error k)
 |some (.ok m1)=>Nj (m1.M8 1) λm2=>
  if m2.o.main<0 then none else
  match m2.fns[m2.o.main.toNat]? with
  |none=>none
  |some x=>
   match m2.s.push x with
   |none=>none
   |some s=>l0.enter { m2 with s:=s } sl
def VV (w:World) (mb wb:Nat) (r:Except Nat l0) (e:Ending) (w':World):Prop:=
 Fr (M2 mb wb) w w'/\match r with
 |.ok m'=>e=.returned (.tuple #[])/\∃fv,qW w' mb wb fv m'/\Qp w.heap.size fv
 |.error k=>e=up k/\∃fv m',qW w' mb wb fv m'/\Qp w.heap.size fv
variable {w:World}{mb wb:Nat}{o:SR}{fv:Value}{s:nG}
theorem qS.c6(h:qS w mb wb (MU o fv) s):w.cell? ⟨mb,6,none⟩=some (.int .i64 o.nf):=h.blk.cell 6
theorem qS.c7(h:qS w mb wb (MU o fv) s):w.cell? ⟨mb,7,none⟩=some (.int .i64 o.main):=h.blk.cell 7
variable {fns:List Int}
theorem zvA(h:PR w mb wb fns fv):∃sp cap,fv=.slice sp fns.length cap:=by
 rcases h with⟨rfl,rfl⟩|⟨fb,cap,sp,rfl,_⟩
 .exact⟨none,0,rfl⟩
 .exact⟨_,_,rfl⟩
theorem zxA(x:Int):∀u∈[Value.int .i64 x],u.oneCell'=true:=by intro u hu;simp only[Mz,PV,qT]at hu;subst hu;rfl
variable {base g:Nat}
theorem added{w4 w5:World}{dU:Nat}{s2:nG}{x:Int}{b:Obj}(hs:qS w4 mb wb (MU o fv) s2)(hf:PR w4 mb wb fns fv)(bZ:fns.length+1<=1000000)(si:o.fuel<=1000000000)(ai:w5.ownsRow base 2 1 (.slice (some ⟨g,0,none⟩) (fns.length+1) dU) (fns.length+1) (MG fns++[.int .i64 x]))(ah:(w4.alloc b).grownBy w5 fv.ownBlock)(aV:fv.ownBlock=some g\/g=w4.heap.size+1)(_hb:base<=g):
  qS w5 mb wb (MU o fv) s2/\qW (w5.setCell ⟨mb,8,none⟩ (.slice (some ⟨g,0,none⟩) (fns.length+1) dU)) mb wb (.slice (some ⟨g,0,none⟩) (fns.length+1) dU) ⟨s2,o,fns++[x]⟩:=by
 have nT:=hf.zyr;have fC:qS w5 mb wb (MU o fv) s2:=(hs.below (Mi w4 b)).grown ah nT.1 nT.2;have hm:=hs.blk.lt;have hw:=hs.MX.lt;have Ey:g≠mb:=by
  rcases aV with h1|h1
  .intro e;subst e;exact nT.1 h1.symm
  .omega
 have fq:g≠wb:=by
  rcases aV with h1|h1
  .intro e;subst e;exact nT.2 h1.symm
  .omega
 refine⟨fC,fC.zyv _,?_,by simpa using bZ,si⟩;have e:(MG fns++[.int .i64 x])=MG (fns++[x]):=by simp[MG]
 have el:fns.length+1=(fns++[x]).length:=by simp
 rw[e,el]at ai;have h1:=ztK ai Ey fq;rw[<-el]at h1;exact h1.fr ((eU _ _).set _ _ (.inl (.inl rfl)))
variable {n cap:Nat}
theorem Qp.Ye{w5:World}{xs:List Value}(h:w5.ownsRow base 2 1 (.slice (some ⟨g,0,none⟩) n cap) n xs):base<=g:=by
 rcases h.2 with⟨h1,_⟩|⟨g',dU,cur,h1,h2,_⟩
 .cases h1
 .simp only[Value.slice.injEq,IA,Addr.mk.injEq,and_true]at h1;rw[h1.1];exact h2
variable {a b:World}
theorem Fr.grown(h:Fr (M2 mb wb) w a)(hg:a.grownBy b fv.ownBlock)(hf:Qp w.heap.size fv):Fr (M2 mb wb) w b:=
 ⟨hg.os.trans h.os,hg.tape.trans h.tape,hg.output.trans h.output,yM h.size hg.size,λi hi hK=>(hg.block i (Kl hi h.size) (λe=>by have:=hf i e.symm;omega)).trans (h.block i hi hK)⟩
variable {m:l0}{sl:List Nat}
theorem zon{r:Except Nat l0}(h:qW w mb wb (.slice none 0 0) m)(hB:O4 w mb wb (.slice none 0 0) m.o.pb sl)(kg:m.fns=[])(hn:m.o.nf=n)(EV:n<=1000000)(hb:m.start sl=some r):
  Calls prog 46 #[.pointer (some ⟨mb,0,none⟩)] w λe w'=>VV w mb wb r e w':=by
 obtain⟨i0,hi,bq,aP,bF⟩:=nC zxq;have HI:=eu hi;clear hi;have HZ:=eu (kK bq (kK aP bF));clear bq aP bF;have c6:=h.sat.c6;rw[hn]at c6;unfold l0.start at hb;rw[hn,MO]at hb;obtain⟨rr,nZ,eW⟩:∃rr,l0.NF 0 n m=some rr/\(match rr with|.error k=>some (.error k)|.ok m1=>Nj (m1.M8 1) λm2=>if m2.o.main<0 then none else match m2.fns[m2.o.main.toNat]? with|none=>none|some x=>match m2.s.push x with|none=>none|some s=>l0.enter { m2 with s:=s } sl)=some r:=by
  cases h2:l0.NF 0 n m with
  |none=>rw[h2]at hb;cases hb
  |some rr=>rw[h2]at hb;refine⟨rr,rfl,?_⟩;cases rr<;>exact hb
 have HH:=eu h;have HB:=eu hB;have ui:=eu nZ;have qt:=eu eW;have pE:=eu kg;clear h hB hb nZ eW kg hn;go_enter func46,ntmps46;go_wp2_with fail
 go_loopg [8] n (λgk iv wr=>∃(i:Nat)(q:l0)(fv:Value),iv=.int .i64 i/\i+gk=n/\qW wr mb wb fv q/\Qp w.heap.size fv/\q.o=m.o/\q.fns.length=i/\l0.NF i gk q=some rr/\Fr (M2 mb wb) w wr)
 case atStart=>exact⟨0,m,_,rfl,by omega,HH.o,(by intro k hk;cases hk),rfl,by rw[pE.o];rfl,ui.o,eU _ _⟩
 case round=>
  obtain⟨i,q,fv,rfl,jm,hq,ak,AH,p7,dH,gr⟩:=hrel;have HQ:=eu hq;have du:=eu ak;have y7:=eu AH;have vQ:=eu p7;have kA:=eu gr;clear hq ak AH p7 gr c6;cases gk with
  |zero=>
   obtain rfl:=J8 dH;have nP:¬(i:Int)<(n:Int):=by omega
   have hf:=qt.o;dsimp only at hf;unfold Nj at hf;split at hf
   .cases hf
   .next k hn=>obtain rfl:=J8 hf;have CN:=eu (Pd HQ.o hn);clear hn hf dH;go_wp2_with fail;refine CN.o.mono ?_;rintro e w3⟨f3,rfl,h3⟩;obtain⟨m',fO⟩:=h3;exact⟨rfl,kA.o.VN f3 du.o,rfl,fv,m',fO,du.o⟩
   .next m2 hn=>
    have CN:=eu (Pd HQ.o hn);have sI:m2.o=m.o:=(Zc hn).trans y7.o;dsimp only at hf;split at hf
    .cases hf
    .next ET=>
     split at hf
     .cases hf
     .next x hx=>
      split at hf
      .cases hf
      .next s aM=>
       obtain⟨mn,cL⟩:∃mn:Nat,m2.o.main=mn:=⟨m2.o.main.toNat,by omega⟩;rw[cL,MO]at hx;have HX:=eu hx;have je:=eu aM;have BY:=eu hf;have ny:=eu cL;have dk:=(Dq.1 hx).1;have Fw:(mn:Int)<(m2.fns.length:Int):=by omega
       have vL:=eu sI;clear hn hf dH ET hx aM cL dk sI;go_wp2_with fail;refine CN.o.mono ?_;rintro e w3⟨f3,rfl,h3⟩;have H3:=eu h3;have F3:=eu (kA.o.VN f3 du.o);clear f3 CN;rcases h3.OS with⟨_,ck⟩|⟨fb,cap,sp,rfl,oV,_⟩
       .have hx:=HX.o;rw[ck]at hx;cases hx
       .have c8:=h3.sat.c8;have c7:=h3.sat.c7;rw[ny.o]at c7;have cx:=oV.word HX.o;have vA:=eu oV;clear h3 oV;go_wp2_with fail
        go_region_held3 (λW=>W.cell? ⟨mb,8,none⟩=some (.slice (some ⟨fb,0,none⟩) m2.fns.length cap)/\W.cell? ⟨mb,7,none⟩=some (.int .i64 mn)/\W.cell? ⟨fb,mn,none⟩=some (.int .i64 x)) (first|go_keep|(refine⟨?_,?_,?_⟩<;>assumption)) ((go_at_call 76;refine(I9 H3.o.sat.drew je.o).mono ?_;rintro e w4⟨rfl,h4,f4⟩;have H4:=eu h4;have F4:Hid (Fr (M2 mb wb) w3 w4):=eu ((eU _ _).drew.trans f4);have e0:=h4.c8;have e7:w4.cell? ⟨mb,7,none⟩=some (.int .i64 mn):=(by rw[h4.c7,ny.o]);have ex:=(vA.o.fr F4.o).word HX.o;clear h4 f4))
        all_goals
         have H5:=eu (H3.o.O6 H4.o F4.o);have F5:=eu (F3.o.trans F4.o);have kx:Hid (O4 w4 mb wb (.slice (some ⟨fb,0,none⟩) m2.fns.length cap) m2.o.pb sl):=eu (by rw[vL.o];exact HB.o.mv F5.o du.o);have CE:=eu (znM H5.o kx.o BY.o);clear c8 c7 cx e0 e7 ex;go_wp2_with fail;refine CE.o.mono ?_;cases r with
         |error j=>rintro e w7⟨f7,rfl,m',h7⟩;exact⟨rfl,F5.o.VN f7 du.o,rfl,_,m',h7,du.o⟩
         |ok m'=>
          rintro e w7⟨f7,rfl,h7⟩;have H7:=eu h7;have F7:=eu (F5.o.VN f7 du.o);clear f7 h7;go_wp2
          first|go_end0|refine Ju rfl rfl ?_
          exact⟨F7.o,rfl,_,H7.o,du.o⟩
  |succ g=>
   have nP:(i:Int)<(n:Int):=by omega
   rw[l0.NF]at dH;unfold Nj at dH;split at dH
   .cases dH
   .next k hn=>obtain rfl:=J8 dH;have hf:=qt.o;obtain rfl:=J8 hf;have CN:=eu (Pd HQ.o hn);clear hn hf dH;go_wp2_with fail;refine CN.o.mono ?_;rintro e w3⟨f3,rfl,h3⟩;obtain⟨m',fO⟩:=h3;exact⟨rfl,kA.o.VN f3 du.o,rfl,fv,m',fO,du.o⟩
   .next m1 hn=>
    dsimp only at dH;split at dH
    .cases dH
    .next s2 bg=>
     have CN:=eu (Pd HQ.o hn);have sI:m1.o=m.o:=(Zc hn).trans y7.o;have Av:m1.fns.length=i:=(zxz hn).trans vQ.o;have CH:=eu (λW:World=>Rg 2 i 0 W (by omega) (by omega));obtain⟨z,hz⟩:∃z,Hd 2 i 0=z:=⟨_,rfl⟩;rw[hz]at CH bg;have ue:=eu bg;have vH:=eu dH;have vL:=eu sI;have y6:=eu Av;clear hn bg dH sI Av hz;go_wp2_with fail;refine CN.o.mono ?_;rintro e w3⟨f3,rfl,h3⟩;have F3:=eu (kA.o.VN f3 du.o);obtain⟨sp,cap,bI⟩:=zvA h3.OS;subst bI;have c8:=h3.sat.c8;have H3:=eu h3;have bZ:m1.fns.length<=1000000:=h3.fl;clear f3 h3 CN;go_wp2_with fail
     go_region_law (first
      |(refine step_append_lies _ (by rfl) _ _ _ (by rfl) w.heap.size 2 i0 _ 1 8 underlying76 HI.o HZ.o.1 HZ.o.2.1 HZ.o.2.2 rfl (by omega) (.slice sp m1.fns.length cap) m1.fns.length (MG m1.fns) (by rfl) (yL.o.fr (oq (Mi _ _))|>.owns du.o) ⟨w4.heap.size,0,none⟩ 1 1 [.int .i64 m1.s.free] (by rfl) (by rfl) (World.news_of_block (cs:=#[.int .i64 m1.s.free]) (t:=2) (fr:=(0,0)) (heap_alloc_new w4 _)) (zxA _) (by omega) (by unfold maxLen;omega) (by omega) (by have:=F4.o.size;simp;omega) (w4.heap.size+1) (by simp) ?_;intro g' dU w5 ai ah aV aj;have AD:=eu (added H4.o yL.o (by have:=y6.o;omega) H3.o.fuel ai ah aV (Qp.Ye ai));have Cr:=eu ai;have Ce:=eu ah;have d8:=AD.o.1.c8;have df:=AD.o.1.blk.frozen 8;clear ai ah aV aj)
      |(go_simp;go_wp2_with (first
        |(go_at_call 75;refine(CH.o _).mono ?_;rintro e FW⟨rfl,Fo⟩;subst FW)
        |(go_at_call 74;refine(nG.UG (sp:=none) (cp:=0) H3.o.sat.drew ue.o (λh0=>absurd h0 (by simp))).mono ?_;rintro e w4⟨rfl,h4,f4⟩;have H4:=eu h4;have F4:=eu (F3.o.drew.trans f4);have yL:=eu (H3.o.OS.fr ((eU _ _).drew.trans f4));have d8:=h4.c8;have a8:=(h4.below (Mi w4 (.cells #[.int .i64 m1.s.free] 2))).c8;have n4:w4.heap.size≠mb:=(by have:=h4.blk.lt;omega);clear h4 f4))))
     all_goals
      have HA:=eu AD.o.2;have FA:Hid (Fr (M2 mb wb) w (w5.setCell ⟨mb,8,none⟩ (.slice (some ⟨g',0,none⟩) (m1.fns.length+1) dU))):=eu (((F4.o.alloc _).grown Ce.o du.o).set _ _ (.inl (.inl rfl)));generalize w5.setCell ⟨mb,8,none⟩ (.slice (some ⟨g',0,none⟩) (m1.fns.length+1) dU)=w6 at HA FA|-;clear c8 d8 a8 df n4;go_wp2
      go_roundg g
      case measure=>omega
      case rel=>refine⟨i+1,_,_,by go_num,by omega,HA.o,?_,vL.o,by have:=y6.o;simp;omega,vH.o,FA.o⟩;intro k hk;simp only[Value.ownBlock,IA]at hk;rw[<-hk];exact Qp.Ye Cr.o
theorem zsV(x:Value)(w:World):(Instr.typeAssert (.iface 82 x) 20 82 true).run prog w=.ok (.tuple #[x,.bool true]) w:=by kernel_rfl
theorem zgd(bm bo mb:Nat)(k:Nat)(w:World)(o0 o1 o2 o3:Value)(tl:List Value)(x0 x1 x2 x3 x4:Value)(t:TypeId)(hm:oH w bm [.pointer (some ⟨mb,0,none⟩)] 75)(hM:oH w mb (x0::x1::x2::x3::x4::tl) t)(hO:oH w bo [o0,o1,o2,o3] 35)(_h1:bm≠mb)(h2:bo≠mb)(_h3:bo≠bm):
  CallsD prog 45 #[.pointer (some ⟨bm,0,none⟩),.pointer (some ⟨bo,0,none⟩)] (.panicking [{ v:=.iface 82 (.int .i64 k),recovered:=false }]) w λe u' w'=>
   e=.returned (.tuple #[])/\u'=.panicking [{ v:=.iface 82 (.int .i64 k),recovered:=true }]/\oH w' bo [.int .i64 k,.int .i64 0,.int .i64 0,.int .i64 0] 35/\Fr (λi=>i=mb\/i=bo) w w':=by
 refine callsD_of_wpS func45 rfl λc₀ cs hu=>?_
 have c:=al hm 0;have m0:=al hM 0;have m1:=al hM 1;have m2:=al hM 2;have m3:=al hM 3;have m4:=al hM 4;simp at c m0 m1 m2 m3 m4;have f0:=ku hM 0;have f1:=ku hM 1;have f2:=ku hM 2;have f3:=ku hM 3;have f4:=ku hM 4;have HM:=eu hM;have HO:=eu hO;have Cn:=eu hm;clear hM hO hm;obtain⟨R,hR⟩:∃R:Ending->FrameMode->World->Prop,∀e u' w',R e u' w'↔(e=.returned (.tuple #[])/\u'=.panicking [{ v:=.iface 82 (.int .i64 k),recovered:=true }]/\oH w' bo [.int .i64 k,.int .i64 0,.int .i64 0,.int .i64 0] 35/\Fr (λi=>i=mb\/i=bo) w w'):=⟨_,λ_ _ _=>P2⟩;rw[show(λe u' w'=>e=Ending.returned (.tuple #[])/\u'=.panicking [{ v:=.iface 82 (.int .i64 k),recovered:=true }]/\oH w' bo [.int .i64 k,.int .i64 0,.int .i64 0,.int .i64 0] 35/\Fr (λi=>i=mb\/i=bo) w w')=R from funext λe=>funext λu'=>funext λw'=>propext (hR e u' w').symm];have HR:=eu hR;clear hR;apply wpS_seq;refine wpS_of_wp ?_;simp only[ntmps45,O3,Kh,My,Nat.reduceAdd,Nat.reduceSub,QX,QY,Q0,QZ,MQ,MP];go_wp2_with fail;have F1:Hid (Fr (λi=>i=mb\/i=bo) w (((((w.setCell ⟨mb,0,none⟩ (.slice none 0 0)).setCell ⟨mb,1,none⟩ (.int .i64 0)).setCell ⟨mb,2,none⟩ (.int .i64 0)).setCell ⟨mb,3,none⟩ (.int .i64 0)).setCell ⟨mb,4,none⟩ (.int .i64 0))):=
  eu ((((((eU _ _).set _ _ (.inl (.inl rfl))).set _ _ (.inl (.inl rfl))).set _ _ (.inl (.inl rfl))).set _ _ (.inl (.inl rfl))).set _ _ (.inl (.inl rfl)))
 have O1:Hid (oH (((((w.setCell ⟨mb,0,none⟩ (.slice none 0 0)).setCell ⟨mb,1,none⟩ (.int .i64 0)).setCell ⟨mb,2,none⟩ (.int .i64 0)).setCell ⟨mb,3,none⟩ (.int .i64 0)).setCell ⟨mb,4,none⟩ (.int .i64 0)) bo [o0,o1,o2,o3] 35):=
  eu (((((HO.o.other _ _ h2).other _ _ h2).other _ _ h2).other _ _ h2).other _ _ h2)
 generalize(((((w.setCell ⟨mb,0,none⟩ (.slice none 0 0)).setCell ⟨mb,1,none⟩ (.int .i64 0)).setCell ⟨mb,2,none⟩ (.int .i64 0)).setCell ⟨mb,3,none⟩ (.int .i64 0)).setCell ⟨mb,4,none⟩ (.int .i64 0))=w1 at F1 O1|-;clear c m0 m1 m2 m3 m4 f0 f1 f2 f3 f4;simp only[Exit.thenS];apply wpS_seq;apply wpS_region;simp[wpOpsS,go_sem,recoverD,hu,Exit.thenS];refine wpS_of_wp ?_;have q0:=al O1.o 0;have q1:=al O1.o 1;have q2:=al O1.o 2;have q3:=al O1.o 3;simp at q0 q1 q2 q3;have g0:=ku O1.o 0;have g1:=ku O1.o 1;have g2:=ku O1.o 2;have g3:=ku O1.o 3;have er:=zsV;go_wp2_with fail;have cE:=(((O1.o.set 0 (.int .i64 k)).set 1 (.int .i64 0)).set 2 (.int .i64 0)).set 3 (.int .i64 0);have FF:Fr (λi=>i=mb\/i=bo) w ((((w1.setCell ⟨bo,0,none⟩ (.int .i64 k)).setCell ⟨bo,1,none⟩ (.int .i64 0)).setCell ⟨bo,2,none⟩ (.int .i64 0)).setCell ⟨bo,3,none⟩ (.int .i64 0)):=
  (((F1.o.set _ _ (.inl (.inr rfl))).set _ _ (.inl (.inr rfl))).set _ _ (.inl (.inr rfl))).set _ _ (.inl (.inr rfl))
 exact⟨rfl,_,rfl,_,IM rfl _ _ _,(HR.o _ _ _).2 ⟨rfl,rfl,cE,FF⟩⟩
theorem zt0(bm bo mb:Nat)(w:World)(o0 o1 o2 o3:Value)(tl:List Value)(x0 x1 x2 x3 x4:Value)(t:TypeId)(hm:oH w bm [.pointer (some ⟨mb,0,none⟩)] 75)(hM:oH w mb (x0::x1::x2::x3::x4::tl) t)(hO:oH w bo [o0,o1,o2,o3] 35)(_h1:bm≠mb)(h2:bo≠mb)(_h3:bo≠bm):
  CallsD prog 45 #[.pointer (some ⟨bm,0,none⟩),.pointer (some ⟨bo,0,none⟩)] .returning w λe u' w'=>
   e=.returned (.tuple #[])/\u'=.returning/\oH w' bo [o0,o1,o2,o3] 35/\Fr (λi=>i=mb\/i=bo) w w':=by
 refine callsD_of_wpS func45 rfl λc₀ cs hu=>?_
 have c:=al hm 0;have m0:=al hM 0;have m1:=al hM 1;have m2:=al hM 2;have m3:=al hM 3;have m4:=al hM 4;simp at c m0 m1 m2 m3 m4;have f0:=ku hM 0;have f1:=ku hM 1;have f2:=ku hM 2;have f3:=ku hM 3;have f4:=ku hM 4;have HM:=eu hM;have HO:=eu hO;have Cn:=eu hm;clear hM hO hm;obtain⟨R,hR⟩:∃R:Ending->FrameMode->World->Prop,∀e u' w',R e u' w'↔(e=.returned (.tuple #[])/\u'=.returning/\oH w' bo [o0,o1,o2,o3] 35/\Fr (λi=>i=mb\/i=bo) w w'):=⟨_,λ_ _ _=>P2⟩;rw[show(λe u' w'=>e=Ending.returned (.tuple #[])/\u'=.returning/\oH w' bo [o0,o1,o2,o3] 35/\Fr (λi=>i=mb\/i=bo) w w')=R from funext λe=>funext λu'=>funext λw'=>propext (hR e u' w').symm];have HR:=eu hR;clear hR;apply wpS_seq;refine wpS_of_wp ?_;simp only[ntmps45,O3,Kh,My,Nat.reduceAdd,Nat.reduceSub,QX,QY,Q0,QZ,MQ,MP];go_wp2_with fail;have F1:Hid (Fr (λi=>i=mb\/i=bo) w (((((w.setCell ⟨mb,0,none⟩ (.slice none 0 0)).setCell ⟨mb,1,none⟩ (.int .i64 0)).setCell ⟨mb,2,none⟩ (.int .i64 0)).setCell ⟨mb,3,none⟩ (.int .i64 0)).setCell ⟨mb,4,none⟩ (.int .i64 0))):=
  eu ((((((eU _ _).set _ _ (.inl (.inl rfl))).set _ _ (.inl (.inl rfl))).set _ _ (.inl (.inl rfl))).set _ _ (.inl (.inl rfl))).set _ _ (.inl (.inl rfl)))
 have O1:Hid (oH (((((w.setCell ⟨mb,0,none⟩ (.slice none 0 0)).setCell ⟨mb,1,none⟩ (.int .i64 0)).setCell ⟨mb,2,none⟩ (.int .i64 0)).setCell ⟨mb,3,none⟩ (.int .i64 0)).setCell ⟨mb,4,none⟩ (.int .i64 0)) bo [o0,o1,o2,o3] 35):=
  eu (((((HO.o.other _ _ h2).other _ _ h2).other _ _ h2).other _ _ h2).other _ _ h2)
 generalize(((((w.setCell ⟨mb,0,none⟩ (.slice none 0 0)).setCell ⟨mb,1,none⟩ (.int .i64 0)).setCell ⟨mb,2,none⟩ (.int .i64 0)).setCell ⟨mb,3,none⟩ (.int .i64 0)).setCell ⟨mb,4,none⟩ (.int .i64 0))=w1 at F1 O1|-;clear c m0 m1 m2 m3 m4 f0 f1 f2 f3 f4;simp only[Exit.thenS];apply wpS_seq;apply wpS_region;simp[wpOpsS,go_sem,recoverD,hu,Exit.thenS];refine wpS_of_wp ?_;go_wp2_with fail;exact⟨rfl,.returning,by cases c₀;simp_all,_,IM rfl _ _ _,(HR.o _ _ _).2 ⟨rfl,rfl,O1.o,F1.o⟩⟩
def l0.told (m:l0):Option (Int × Int × Int × Int):=
 match m.s.nodeAt 0 with
 |none=>none
 |some (a,y)=>
  if y%16=0 then(match m.s.ws[a+1]? with|none=>none|some v=>some (1,v,0,0))
  else if y%16=1 then some (2,0,y/65536,y/16%4096)
  else some (3,0,0,0)
theorem zpF{k n t a:Int}(h:qW w mb wb fv m)(ht:m.told=some (k,n,t,a)):
  Calls prog 48 #[.pointer (some ⟨mb,0,none⟩)] w λe w'=>e=.returned (QG k n t a)/\Fr (λ_=>False) w w':=by
 unfold l0.told at ht;split at ht
 .cases ht
 rename_i b y hn;refine zG7 (o:=(k,n,t,a)) h hn ?_;split at ht
 .rename_i h0;split at ht
  .cases ht
  .rename_i v hv;exact .inl ⟨h0,v,hv,(J8 ht).symm⟩
 .split at ht
  .rename_i h1;exact .inr (.inl ⟨h1,(J8 ht).symm⟩)
  .rename_i h0 h1;exact .inr (.inr ⟨h0,h1,(J8 ht).symm⟩)
def l0.new (pv:Value) (nf main words fuel:Nat):l0:=⟨⟨List.replicate words 0,words/2,0,0,words/2⟩,⟨pv,nf,main,fuel,0,0⟩,[]⟩
def runM (pv:Value) (cd:List (Nat × List Ds)) (nf main words fuel g:Nat):Option (Int × Int × Int × Int):=
 match(l0.new pv nf main words fuel).start (cd.map Prod.fst)with
 |none=>none
 |some (.error k)=>some (k,0,0,0)
 |some (.ok m1)=>
  match l0.work cd g m1 with
  |none=>none
  |some (.error k)=>some (k,0,0,0)
  |some (.ok m2)=>m2.told
def Zf (w:World) (pv:Value) (cd:List (Nat × List Ds)):Prop:=∀mb wb,w.heap.size<=mb->w.heap.size<=wb->Q4 w mb wb (.slice none 0 0) pv cd
variable {K:Nat->Prop}
theorem Fr.drop(h:Fr (λ_=>False) w a)(k:Fr K a b)(hK:∀i,i<w.heap.size->¬K i):Fr (λ_=>False) w b:=
 ⟨k.os.trans h.os,k.tape.trans h.tape,k.output.trans h.output,yM h.size k.size,λi hi _=>(k.block i (Kl hi h.size) (hK i hi)).trans (h.block i hi (λe=>e))⟩
theorem znW:∀{k i:Nat}{m m':l0},l0.NF i k m=some (.ok m')->m'.o.pb=m.o.pb
 |0,_,_,_,h=>by cases h;rfl
 |k+1,i,m,m',h=>by
  rw[l0.NF]at h;refine QN (λm1 h1=>?_) h;split at h1
  .cases h1
  .have:=znW h1;exact this
variable {m':l0}
theorem zwl(h:m.start sl=some (.ok m')):m'.o.pb=m.o.pb:=by
 unfold l0.start at h;split at h
 .cases h
 .cases h
 .next m1 hl=>
  rw[<-znW hl];refine QN (λm2 h2=>?_) h;split at h2
  .cases h2
  .split at h2
   .cases h2
   .split at h2
    .cases h2
    .have:=zqo h2;exact this
theorem zuU{P:Program}{c:Code}{K:Act->World->Prop}{Q:Exit->Act->World->Prop}{a:Act}(h:c.wp P (Exit.then K (λ_ _ _=>False)) a w):c.wp P (Exit.then K Q) a w:=
 wp_mono h λe _ _ hq=>by cases e<;>first|exact hq|exact hq.elim
variable {l:Nat}
theorem ztG{wc:World}{pb nf main words fuel:Nat}(hm:oH wc mb [.slice (some ⟨wb,0,none⟩) words words,.int .i64 ((words:Int)/2),.int .i64 0,.int .i64 0,.int .i64 ((words:Int)/2),.slice (some ⟨pb,0,none⟩) l cap,.int .i64 nf,.int .i64 main,.slice none 0 0,.int .i64 fuel,.int .i64 0,.int .i64 0] 81)(hw:oH wc wb (MG (List.replicate words 0)) 2)(aH:mb≠wb)(oh:words<=1000000)(pW:fuel<=1000000000):qW wc mb wb (.slice none 0 0) (l0.new (.slice (some ⟨pb,0,none⟩) l cap) nf main words fuel):=by
 refine⟨⟨?_,hw,aH,by simpa[l0.new]using oh,by simp only[l0.new];omega,by simp[l0.new],by simp[l0.new],by simp only[l0.new];omega⟩,.inl ⟨rfl,rfl⟩,by simp[l0.new],pW⟩;have e:((words/2:Nat):Int)=(words:Int)/2:=by omega
 simp only[l0.new,UP,MU,Q3,e,MP,MQ,Int.natCast_zero];exact hm
theorem Wc{W:World}{s:Nat}{x y z:Value}{ty:TypeId}(h:oH W s [x,y,z] ty):W.cell? ⟨s,0,none⟩=some x/\W.cell? ⟨s,1,none⟩=some y/\W.cell? ⟨s,2,none⟩=some z:=
 ⟨by simpa using al h 0,by simpa using al h 1,by simpa using al h 2⟩
variable {pv:Value}{cd:List (Nat × List Ds)}
theorem zxI{nf main words fuel:Nat}{k n t a:Int}(hC:Zf w pv cd)(jZ:nf<=1000000)(oh:words<=1000000)(pW:fuel<=1000000000)(hr:runM pv cd nf main words fuel g=some (k,n,t,a)):
  Calls prog 34 #[.agg #[pv,.int .i64 nf,.int .i64 main],.int .i64 words,.int .i64 fuel] w λe w'=>e=.returned (QG k n t a)/\Fr (λ_=>False) w w':=by
 have mc:∀(fn:Fn)(first cap:Array Value)(w:World),(Instr.makeFunc fn first cap).run prog w=.ok (.func fn first cap) w:=λ_ _ _ _=>rfl
 have HC:=eu hC;obtain⟨pb,cap,eD⟩:∃pb cap,pv=.slice (some ⟨pb,0,none⟩) cd.length cap:=by obtain⟨pb,cap,eD,_⟩:=hC _ _ (qP _) (qP _);exact⟨pb,cap,eD⟩
 subst eD;have HR:=eu hr;have Fp:(words:Int)<=1000000:=by omega
 clear hC hr
 go_enter_defers func34,ntmps34
 go_wp2_with fail;obtain⟨pl,gK⟩:∃l:List Value,Hid (l=[.slice (some ⟨pb,0,none⟩) cd.length cap,.int .i64 nf,.int .i64 main]):=⟨_,eu rfl⟩;obtain⟨ol,J0⟩:∃l:List Value,Hid (l=[.int .i64 0,.int .i64 0,.int .i64 0,.int .i64 0]):=⟨_,eu rfl⟩;obtain⟨ml,Av⟩:∃l:Nat->List Value,Hid (∀b,l b=[.slice (some ⟨b,0,none⟩) words words,.int .i64 ((words:Int)/2),.int .i64 0,.int .i64 0,.int .i64 ((words:Int)/2),.slice (some ⟨pb,0,none⟩) cd.length cap,.int .i64 nf,.int .i64 main,.slice none 0 0,.int .i64 fuel,.int .i64 0,.int .i64 0]):=⟨_,eu λ_=>rfl⟩;rw[<-gK.o,<-J0.o];have BP:=eu (gd (K:=λ_=>False) (gH w pl 66) ((eU _ _).alloc (.cells ol.toArray 35)));have BO:=eu (gH (w.alloc (.cells pl.toArray 66)) ol 35);rw[gM]at BO;have F1:Hid (Fr (λ_=>False) w ((w.alloc (.cells pl.toArray 66)).alloc (.cells ol.toArray 35))):=eu (((eU _ _).alloc _).alloc _);have uj:Hid (((w.alloc (.cells pl.toArray 66)).alloc (.cells ol.toArray 35)).heap.size=w.heap.size+2):=eu (by simp);generalize(w.alloc (.cells pl.toArray 66)).alloc (.cells ol.toArray 35)=w1 at BP BO F1 uj|-;rw[gK.o]at BP;rw[J0.o]at BO;have p0:=al BP.o 0;have p1:=al BP.o 1;have p2:=al BP.o 2;simp at p0 p1 p2
 go_cut [7]from 8 to 13 (λv wc=>∃bm mb wb,v=.pointer (some ⟨bm,0,none⟩)/\oH wc bm [.pointer (some ⟨mb,0,none⟩)] 75/\qW wc mb wb (.slice none 0 0) (l0.new (.slice (some ⟨pb,0,none⟩) cd.length cap) nf main words fuel)/\Fr (λ_=>False) w1 wc/\w1.heap.size<=bm/\w1.heap.size<=mb/\w1.heap.size<=wb/\bm≠mb/\bm≠wb)
 case first=>
  refine zuU ?_;have G0:Hid (Fr (λ_=>False) w1 w1.drew):=eu (eU _ _).drew;have SB:Hid (∀W,Fr (λ_=>False) w1 W->oH W w.heap.size [.slice (some ⟨pb,0,none⟩) cd.length cap,.int .i64 nf,.int .i64 main] 66):=eu λW f=>gd BP.o f
  refine uu (S:=λW=>oH W w.heap.size [.slice (some ⟨pb,0,none⟩) cd.length cap,.int .i64 nf,.int .i64 main] 66) (by kernel_rfl) (SB.o _ G0.o) (λax=>?_);refine tk 0 (hy:=by intro w h;obtain⟨_,_,_⟩:=Wc h;go_simp;try with_reducible rfl) ?_
  try simp only[Act.put,MV]
  refine tk 1 (hy:=by intro w h;obtain⟨_,_,_⟩:=Wc h;go_simp;try with_reducible rfl) ?_
  try simp only[Act.put]
  refine tk 3 (hy:=by intro w h;obtain⟨_,_,_⟩:=Wc h;go_simp;try with_reducible rfl) ?_
  try simp only[Act.put]
  refine wpAnyH_ready (rs:=[2,6]) (by kernel_rfl) (by simp) ?_;refine(JN rfl (λK hK=>?_) (JN rfl (λK hK=>?_) AllReadyH.nil))
  go_simp
  refine(zih oh).mono ?_;rintro e w2⟨rfl,hb,f⟩;obtain⟨ei,hq⟩:∃b,w1.drew.heap.size+1=b:=⟨_,rfl⟩;rw[hq]at hb;have WB:=eu hb;have G1:=eu f;have HW:=eu hq
  try rw[hq]
  clear hb f hq;refine hK.out _ _ (SB.o _ (G0.o.trans G1.o)) (λax=>?_);clear hK K
  try simp only[Act.put,MV,NK,Nh]
  refine tk 4 (hy:=by intro w h;obtain⟨_,_,_⟩:=Wc h;go_simp;try with_reducible rfl) ?_
  try simp only[Act.put,MV]
  refine wpAnyH_ready (rs:=[5,6]) (by kernel_rfl) (by simp) ?_;refine JN rfl (λK hK=>?_) (JN rfl (λK hK=>?_) AllReadyH.nil)
  go_simp
  rw[<-Av.o ei];obtain⟨cM,hq⟩:∃b,w2.heap.size=b:=⟨_,rfl⟩;have MB:=eu (gH w2 (ml ei) 81);have G2:Hid (Fr (λ_=>False) w2 (w2.alloc (.cells (ml ei).toArray 81))):=eu ((eU _ _).alloc _);have HM:=eu hq;rw[hq]at MB
  try rw[hq]
  clear hq;generalize w2.alloc (.cells (ml ei).toArray 81)=w3 at MB G2|-;refine hK.out _ _ (SB.o _ ((G0.o.trans G1.o).trans G2.o)) (λax=>?_);clear hK K
  try simp only[Act.put,MV,NK,Nh]
  refine OD 6 rfl λK hK=>?_
  go_simp
  obtain⟨bm,hq⟩:∃b,w3.heap.size=b:=⟨_,rfl⟩;have VB:=eu (gH w3 [.pointer none] 75);have G3:Hid (Fr (λ_=>False) w3 (w3.alloc (.cells #[.pointer none] 75))):=eu ((eU _ _).alloc _);have HV:=eu hq;rw[hq]at VB
  try rw[hq]
  clear hq;generalize w3.alloc (.cells #[.pointer none] 75)=w4 at VB G3|-;refine hK.out _ _ (SB.o _ (((G0.o.trans G1.o).trans G2.o).trans G3.o)) (λax=>?_);clear hK K
  try simp only[Act.put,MV,NK,Nh]
  refine OD 7 rfl λK hK=>?_
  rotate_left
  go_simp
  obtain⟨bm,hq⟩:∃b,w2.heap.size=b:=⟨_,rfl⟩;have VB:=eu (gH w2 [.pointer none] 75);have G2:Hid (Fr (λ_=>False) w2 (w2.alloc (.cells #[.pointer none] 75))):=eu ((eU _ _).alloc _);have HV:=eu hq;rw[hq]at VB
  try rw[hq]
  clear hq;generalize w2.alloc (.cells #[.pointer none] 75)=w3 at VB G2|-;refine hK.out _ _ (SB.o _ ((G0.o.trans G1.o).trans G2.o)) (λax=>?_);clear hK K
  try simp only[Act.put,MV,NK,Nh]
  refine OD 5 rfl λK hK=>?_
  go_simp
  rw[<-Av.o ei];obtain⟨cM,hq⟩:∃b,w3.heap.size=b:=⟨_,rfl⟩;have MB:=eu (gH w3 (ml ei) 81);have G3:Hid (Fr (λ_=>False) w3 (w3.alloc (.cells (ml ei).toArray 81))):=eu ((eU _ _).alloc _);have HM:=eu hq;rw[hq]at MB
  try rw[hq]
  clear hq;generalize w3.alloc (.cells (ml ei).toArray 81)=w4 at MB G3|-;refine hK.out _ _ (SB.o _ (((G0.o.trans G1.o).trans G2.o).trans G3.o)) (λax=>?_);clear hK K
  try simp only[Act.put,MV,NK,Nh]
  refine OD 7 rfl λK hK=>?_
  rotate_left
  go_simp
  obtain⟨bm,hq⟩:∃b,w1.heap.size=b:=⟨_,rfl⟩;have VB:=eu (gH w1 [.pointer none] 75).drew;have G1:Hid (Fr (λ_=>False) w1 ((w1.alloc (.cells #[.pointer none] 75)).drew)):=eu ((eU _ _).alloc _).drew;have HV:=eu hq;rw[hq]at VB
  try rw[hq]
  clear hq;generalize(w1.alloc (.cells #[.pointer none] 75)).drew=w2 at VB G1|-;refine hK.out _ _ (SB.o _ G1.o) (λax=>?_);clear hK K
  try simp only[Act.put,MV,NK,Nh]
  refine OD 2 rfl λK hK=>?_
  go_simp
  refine(zih oh).mono ?_;rintro e w3⟨rfl,hb,f⟩;obtain⟨ei,hq⟩:∃b,w2.heap.size+1=b:=⟨_,rfl⟩;rw[hq]at hb;have WB:=eu hb;have G2:=eu f;have HW:=eu hq
  try rw[hq]
  clear hb f hq;refine hK.out _ _ (SB.o _ (G1.o.trans G2.o)) (λax=>?_);clear hK K
  try simp only[Act.put,MV,NK,Nh]
  refine tk 4 (hy:=by intro w h;obtain⟨_,_,_⟩:=Wc h;go_simp;try with_reducible rfl) ?_
  try simp only[Act.put,MV]
  refine OD 5 rfl λK hK=>?_
  go_simp
  rw[<-Av.o ei];obtain⟨cM,hq⟩:∃b,w3.heap.size=b:=⟨_,rfl⟩;have MB:=eu (gH w3 (ml ei) 81);have G3:Hid (Fr (λ_=>False) w3 (w3.alloc (.cells (ml ei).toArray 81))):=eu ((eU _ _).alloc _);have HM:=eu hq;rw[hq]at MB
  try rw[hq]
  clear hq;generalize w3.alloc (.cells (ml ei).toArray 81)=w4 at MB G3|-;refine hK.out _ _ (SB.o _ ((G1.o.trans G2.o).trans G3.o)) (λax=>?_);clear hK K
  try simp only[Act.put,MV,NK,Nh]
  refine OD 7 rfl λK hK=>?_
  all_goals
   have l2:=VB.o.lt;have l3:=MB.o.lt;have s0:=G0.o.size;have g1:=G1.o;have g2:=G2.o;have g3:=G3.o;have FR:Fr (λ_=>False) w1 w4:=by first|exact(g1.trans g2).trans g3|exact((G0.o.trans g1).trans g2).trans g3
   have VB:oH w4 bm [.pointer none] 75:=by first|exact VB.o|exact gd VB.o g3|exact gd (gd VB.o g2) g3
   have MB:oH w4 cM (ml ei) 81:=by first|exact MB.o|exact gd MB.o g3
   have l1:=WB.o.lt;have WB:=by first|exact gd WB.o g3|exact gd (gd WB.o g2) g3
   have hv:=HV.o;have hm:=HM.o;have hw:=HW.o;have s1:=g1.size;have s2:=g2.size;have s3:=g3.size;have z:w1.heap.size<=bm/\w1.heap.size<=cM/\w1.heap.size<=ei/\bm≠cM/\bm≠ei/\cM≠ei:=by omega
   have J5:=eu VB;have v0:=al VB 0;have vf:=ku VB 0;simp at v0;clear VB g1 g2 g3 s0 s1 s2 s3 hv hm hw l1 l2 l3
   go_simp
   refine hK.out _ _ (SB.o _ (FR.set _ _ (.inr z.1))) (λax=>?_);clear hK K
   try simp only[Act.put,MV,NK,Nh]
   refine Jh (by kernel_rfl) ?_ _;go_wp2_with fail;go_meet
   case rel=>exact⟨_,cM,ei,rfl,J5.o.set 0 _,ztG (Av.o _▸MB.other _ _ z.2.2.2.1.symm) (WB.other _ _ z.2.2.2.2.1.symm) z.2.2.2.2.2 oh pW,FR.set _ _ (.inr z.1),z.1,z.2.1,z.2.2.1,z.2.2.2.1,z.2.2.2.2.1⟩
 case rest=>
  obtain⟨bm,mb,wb,rfl,tx,hm,ak,h1,h2,h3,iK,jq⟩:=hcut;have aW:=uj.o;have kA:=eu (F1.o.trans ak);have jV:Q4 wc mb wb (.slice none 0 0) (.slice (some ⟨pb,0,none⟩) cd.length cap) cd:=(HC.o mb wb (by omega) (by omega)).fr (kA.o.mono (λ_ h=>h.elim));have mx:=eu jV;have HM:=eu hm;have vd:=eu tx;have vg:=eu (gd BO.o ak);have nu:Hid (w.heap.size+1≠mb/\w.heap.size+1≠bm):=eu (by omega);have lU:Hid (w.heap.size+1<wc.heap.size/\bm<wc.heap.size/\w.heap.size<mb/\w.heap.size<wb/\w.heap.size+1<mb/\w.heap.size+1<wb):=eu (by have:=ak.size;have:=tx.lt;omega);have b0:=al tx 0;simp at b0;have hr:=HR.o;unfold runM at hr;clear jV tx ak hm p0 p1 p2 aW h1 h2 h3 BP;cases dY:(l0.new (.slice (some ⟨pb,0,none⟩) cd.length cap) nf main words fuel).start (cd.map Prod.fst)with
  |none=>rw[dY]at hr;cases hr
  |some r1=>
  rw[dY]at hr;have CS:=eu (zon HM.o mx.o.kD rfl rfl jZ dY);have pK:=eu dY;have Cw:=eu hr;clear dY hr;go_wp2_with fail;refine CS.o.mono ?_;rintro e w2⟨f2,h2⟩;have oj:=eu (gd vd.o f2 (by rintro(e|e);exact iK e;exact jq e));have qi:=eu (gd vg.o f2 (by have:=lU.o;rintro(e|e)<;>omega));have ql:=eu (kA.o.drop f2 (λi hi=>by have:=lU.o;rintro(e|e)<;>omega));have hr:=Cw.o;rcases r1 with j|m1
  cases hr;obtain⟨rfl,fv,m',fO,dB⟩:=h2;have rS:=fO.sat.blk;have JV:=oj.o;have JW:=qi.o;have JT:=ql.o
  rotate_left
  focus
   obtain⟨rfl,fv,jo,dB⟩:=h2;cases tB:l0.work cd g m1 with
   |none=>simp only[tB]at hr;cases hr
   |some r2=>_
   simp only[tB]at hr;have fJ:=mx.o.mv f2 dB;have iN:m1.o.pb=.slice (some ⟨pb,0,none⟩) cd.length cap:=zwl pK.o;rw[<-iN]at fJ;have CW:=eu (zq2 jo fJ tB);have du:=eu dB;have Cy:=eu hr;have c2:=al oj.o 0;simp at c2;clear f2 jo dB fJ b0 tB hr iN;go_wp2_with fail;refine CW.o.mono ?_;rintro e w3⟨f3,h3⟩;have dB:=du.o;have aj:=lU.o;have tU:=eu (gd oj.o f3 (by rintro(e|e|e);exact iK e;exact jq e;have:=dB _ e;omega));have ve:=eu (gd qi.o f3 (by rintro(e|e|e);omega;omega;have:=dB _ e;omega));have vm:=eu (ql.o.drop f3 (λi hi=>by rintro(e|e|e);omega;omega;have:=dB _ e;omega));have hr:=Cy.o;rcases r2 with j|m2
   cases hr;obtain⟨rfl,m',fO⟩:=h3;have rS:=fO.sat.blk;have JV:=tU.o;have JW:=ve.o;have JT:=vm.o
   rotate_left
   focus
    obtain⟨rfl,sH⟩:=h3;have y4:=eu sH;have C4:=eu hr;have c3:=al tU.o 0;simp at c3;clear f3 sH c2 dB aj hr;go_wp2_with fail;refine(zpF y4.o C4.o).mono ?_;rintro e w4⟨rfl,f4⟩;have Bi:=eu (gd tU.o f4);have mj:=eu (gd ve.o f4);have Bw:=eu (vm.o.trans f4);have Dk:=eu (gd y4.o.sat.blk f4);obtain⟨o0,o1,o2,o3⟩:=mj.o.c4;have g0:=ku mj.o 0;have g1:=ku mj.o 1;have g2:=ku mj.o 2;have g3:=ku mj.o 3;clear f4 c3;unfold QG;go_wp2_with fail;have cE:=mj.o.Wt (.int .i64 k) (.int .i64 n) (.int .i64 t) (.int .i64 a);have JT:=Bw.o.Wt (UZ _) (.int .i64 k) (.int .i64 n) (.int .i64 t) (.int .i64 a);have nb:bm≠w.heap.size+1:=λe=>nu.o.2 e.symm
    have nm:mb≠w.heap.size+1:=λe=>nu.o.1 e.symm
    have ot:∀{b:Nat}{l:List Value}{ty:TypeId},oH w4 b l ty->b≠w.heap.size+1->oH ((((w4.setCell ⟨w.heap.size+1,0,none⟩ (.int .i64 k)).setCell ⟨w.heap.size+1,1,none⟩ (.int .i64 n)).setCell ⟨w.heap.size+1,2,none⟩ (.int .i64 t)).setCell ⟨w.heap.size+1,3,none⟩ (.int .i64 a)) b l ty:=λh hn=>(((h.other _ _ hn).other _ _ hn).other _ _ hn).other _ _ hn
    have zj:=ot Dk.o nm;simp only[UP,MP,MQ]at zj;refine leaves_cons (f:=45) (args:=#[.pointer (some ⟨bm,0,none⟩),.pointer (some ⟨w.heap.size+1,0,none⟩)]) (by simp) (by simp[go_sem]) ?_;refine(zt0 bm (w.heap.size+1) mb _ _ _ _ _ _ _ _ _ _ _ _ (ot Bi.o nb) zj cE iK nu.o.1 nu.o.2).mono ?_;rintro e u' w9⟨rfl,rfl,jC,ff⟩
  rotate_left
  iterate 2
   simp only[UP,MP,MQ]at rS;refine leaves_cons (f:=45) (args:=#[.pointer (some ⟨bm,0,none⟩),.pointer (some ⟨w.heap.size+1,0,none⟩)]) (by simp) (by simp[go_sem]) ?_;refine(zgd bm (w.heap.size+1) mb _ _ _ _ _ _ _ _ _ _ _ _ _ JV rS JW iK nu.o.1 nu.o.2).mono ?_;rintro e u' w9⟨rfl,rfl,jC,ff⟩
   rotate_left
  all_goals
   obtain⟨r0,r1,r2,r3⟩:=jC.c4;have aj:=lU.o;refine⟨QG _ _ _ _,?_,rfl,?_⟩
   .simp[results,Tryz.results34,go_sem,r0,r1,r2,r3,QG]
   .exact JT.drop ff (λi hi=>by rintro(e|e)<;>omega)
end
end Go.Proofs.YtgahgkddaljmkaaGreatDoor
