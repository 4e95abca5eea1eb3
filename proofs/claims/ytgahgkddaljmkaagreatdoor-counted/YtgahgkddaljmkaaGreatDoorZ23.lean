/- Lp1 .. Lp3 -/
import Derived.Test.YtgahgkddaljmkaaGreatDoorZ18
set_option maxRecDepth 100000
set_option maxHeartbeats 4000000
namespace Go.Proofs.YtgahgkddaljmkaaGreatDoor
open Tryz
namespace Ab
def tot (A:Ma):Nat:=(A.h.map sz).sum+A.st.length
def inW (n:Nat):Wd->Bool
 |.ad a=>decide (a<n)
 |.mk _ _=>true
def inN (n:Nat):Nd->Bool
 |.fwd b=>decide (b<n)
 |nd=>(zdd nd).all fun f=>decide (f<n)
def shut (A:Ma):Bool:=A.st.all (inW A.h.length) && A.fns.all (fun a=>decide (a<A.h.length)) && A.h.all (inN A.h.length)
variable {A:Ma}
theorem zBp(hs:shut A=true){a:Nat}(ha:a<A.h.length):can A.h a<A.h.length:=by
 simp only[shut,zzv,List.all_eq_true]at hs;cases hn:A.h[a]? with
 |none=>simp[can,hn];exact ha
 |some nd=>
  cases nd with
  |fwd b=>
   rw[zgl hn];have:=hs.2 _ (zy1 hn);simpa [inN] using this
  |_=>rw[zdc hn rfl];exact ha
theorem zBy(hs:shut A=true){c:Nat}(h:Reach A.h A.st A.fns c):c<A.h.length:=by
 have Il:=hs;simp only[shut,zzv,List.all_eq_true]at Il
 induction h with
 |stk hi=>exact zBp hs (by have:=Il.1.1 _ (zy1 hi);simpa [inW] using this)
 |fn ha=>exact zBp hs (by simpa using Il.1.2 _ ha)
 |@fld c n f _ hn hf ih=>
  refine zBp hs ?_;have:=Il.2 _ (zy1 hn);cases n with
  |data t fs=>simp only[inN,List.all_eq_true]at this;simpa using this f hf
  |clo t fs=>simp only[inN,List.all_eq_true]at this;simpa using this f hf
  |_=>simp[zdd]at hf
theorem zBu(f:Nat->Nat):∀ (C L:List Nat),C.Nodup->(∀ c∈C,c∈L)->(C.map f).sum<=(L.map f).sum
 |[],_,_,_=>zy5 _
 |c::C,L,hn,hc=>by
  obtain ⟨n1,n2⟩:=zAA.1 hn;have hp:=(List.perm_cons_erase (hc c (by simp))).map f;have:=zBu f C (L.erase c) n2 (fun d hd=>(List.mem_erase_of_ne (fun e=>n1 (by rw[<-e];exact hd))).2 (hc d (by simp[hd])));rw[hp.sum_nat,zza,zzd,zza,zzd];omega
theorem zBY(h:List Nd):(List.range h.length).map (zkL h)=h.map sz:=by
 refine List.ext_getElem (by simp) (fun i h1 h2=>?_);simp at h1;simp[zkL,h1]
theorem zAR{hf k:Nat}(hs:shut A=true)(h:tot A+k<=hf):Fits hf A k:=fun C c1 c2=>by
 have:=zBu (zkL A.h) C (List.range A.h.length) c1 (fun c hc=>List.mem_range.2 (zBy hs (c2 c hc)));rw[zBY]at this;unfold tot at h;omega
def zBE (fh k:Nat) (A:Ma) (f:Ma->Option (Except Nat Ma)):Option (Except Nat Ma):=if shut A=true/\tot A+k<=fh then f A else none
def Ma.zAI (fh:Nat) (v:Int) (A:Ma):Option (Except Nat Ma):=zBE fh 3 A fun A=>okA { A with h:=A.h++[.num v],st:=A.st++[.ad A.h.length] }
def Ma.mkNB (fh:Nat) (nd:List Nat->Nd) (c:Nat) (A:Ma):Option (Except Nat Ma):=zBE fh (c+2) A fun A=>
 match zlT A.st c with
 |none=>none
 |some fs=>okA { A with h:=A.h++[nd fs],st:=zcE A.st c++[.ad A.h.length] }
def Ma.zBa (fh:Nat) (w:Ma->Option Wd) (A:Ma):Option (Except Nat Ma):=zBE fh 1 A fun A=>
 match w A with
 |none=>none
 |some w=>okA { A with st:=A.st++[w] }
def Ma.zBJ (fh:Nat) (e:Option Bool) (sg:ByteArray) (l r:Int) (A:Ma):Option (Except Nat Ma):=
 if sg=⟨#[43]⟩ then A.zAI fh (IntKind.i64.wrap (l+r)) else
 if sg=⟨#[45]⟩ then A.zAI fh (IntKind.i64.wrap (l-r)) else
 if sg=⟨#[61,61]⟩ then (match e with|none=>none|some b=>A.mkNB fh (fun _=>.data (if b then 2 else 1) []) 0) else none
def Ma.zA2 (fh:Nat) (e:Option Bool) (sg:ByteArray) (A:Ma):Option (Except Nat Ma):=
 match A.zdW 0 with
 |some (.ok r)=>
  match A.zdW 1 with
  |some (.ok l)=>Ma.zBJ fh e sg l r { A with st:=zcE A.st 2 }
  |_=>none
 |_=>none
def Ma.zA0 (fh:Nat) (sl:List Nat) (c:Nat) (A:Ma):Option Ma:=
 match A.st.getLast? with
 |some (.ad a)=>
  match A.h[a]? with
  |some (.clo b fs)=>
   match sl[b]? with
   |none=>none
   |some n=>if shut A=true/\tot A+fs.length<=fh/\fs.length<=n/\n-fs.length<=c/\c<=2000000/\2+(n-fs.length)<=A.st.length/\c-(n-fs.length)<=1000000 then some { A with st:=leave (zcE A.st 2) (n-fs.length) (c-(n-fs.length))++(fs.map Wd.ad).reverse,next:=b } else none
  |_=>none
 |_=>none
def Ma.zAL (fh:Nat) (sl:List Nat):Nat->Ma->Option (Except Nat Ma)
 |0,_=>none
 |g+1,A=>
  if A.st.length<=1 then okA { A with next:=-1 } else
  match A.st[A.st.length-2]? with
  |some (.mk k b)=>
   if 1000000000<=b then none else
   if k=0 then
    match A.st[A.st.length-1]? with
    |some (.ad v)=>
     if 3<=A.st.length then
     match A.st[A.st.length-3]? with
     |some (.ad c)=>
      match A.h[c]?,A.h[v]? with
      |some .busy,some (.num _)=>Ma.zAL fh sl g { A with h:=A.h.set c (.fwd v),st:=zcE A.st 3++[.ad v] }
      |some .busy,some (.data _ _)=>Ma.zAL fh sl g { A with h:=A.h.set c (.fwd v),st:=zcE A.st 3++[.ad v] }
      |_,_=>none
     |_=>none
     else none
    |_=>none
   else if k=1 then
    match A.st[A.st.length-1]? with
    |some (.ad v)=>okA { A with st:=zcE A.st 2++[.ad v],next:=b }
    |_=>none
   else if k=2 then (A.zA0 fh sl b).map .ok else none
  |_=>none
def Ma.zBg (fh:Nat) (sl:List Nat) (A:Ma):Option (Except Nat Ma):=
 match A.st.getLast? with
 |some (.ad a)=>
  let A1:Ma:={ A with st:=zcE A.st 1++[.ad (can A.h a)] }
  match A.h[can A.h a]? with
  |some (.num _)=>A1.zAL fh sl (A.st.length+1)
  |some (.data _ _)=>A1.zAL fh sl (A.st.length+1)
  |some (.clo b fs)=>
   match sl[b]? with
   |none=>none
   |some n=>if n=fs.length then zBE fh (1+fs.length) A1 fun A=>okA { A with h:=A.h.set (can A1.h a) .busy,st:=A.st++[.mk 0 0]++(fs.map Wd.ad).reverse,next:=b } else if fs.length<n then A1.zAL fh sl (A.st.length+1) else none
  |_=>none
 |_=>none
def Ma.zA1 (fh t:Nat) (fs:List Nat) (A:Ma):List (Nat × Nat × Nat)->Option (Except Nat Ma)
 |[]=>none
 |(u,c,b)::l=>if u=t then (if c=fs.length then zBE fh c A fun A=>okA { A with st:=zcE A.st 1++(fs.map Wd.ad).reverse,next:=b } else none) else Ma.zA1 fh t fs A l
def Ma.zA7 (fh:Nat) (e:Option Bool) (sl:List Nat) (A:Ma):Ins->Option (Except Nat Ma)
 |.push k=>A.zBa fh fun A=>A.slot k
 |.zcW f=>A.zBa fh fun A=>(A.fns[f]?).map Wd.ad
 |.num x=>A.zAI fh x
 |.pack t c=>if t<=1000000000/\c<4096 then A.mkNB fh (.data t) c else none
 |.close b c=>if b<=1000000000/\c<4096 then A.mkNB fh (.clo b) c else none
 |.wait b=>if b<=1000000000 then A.zBa fh fun _=>some (.mk 1 b) else none
 |.zbF c=>if c<=1000000000 then A.zBa fh fun _=>some (.mk 2 c) else none
 |.zci c=>(A.zci c).map .ok
 |.zbX=>match A.zdW 0 with|some (.ok _)=>okA A|_=>none
 |.comp sg=>A.zA2 fh e sg
 |.enter=>A.zBg fh sl
 |.choose zao=>match A.st.getLast? with
  |some (.ad a)=>(match A.h[a]? with|some (.data t fs)=>A.zA1 fh t fs zao|_=>none)
  |_=>none
 |_=>none
def Ma.zAO (fh:Nat) (e:Option Bool) (sl:List Nat):List Ins->Ma->Option (Except Nat Ma)
 |[],A=>okA A
 |i::l,A=>if A.fuel=0 then some (.error 5) else
  match Ma.zA7 fh e sl { A with fuel:=A.fuel-1 } i with
  |none=>none
  |some (.error k)=>some (.error k)
  |some (.ok A2)=>Ma.zAO fh none sl l A2
def Ma.zAC (fh:Nat) (cd:List (Nat × List Ins)):List (Option Bool)->Ma->Option (Except Nat Ma)
 |[],A=>okA A
 |e::es,A=>
  if A.next<0 then none else
  match cd[A.next.toNat]? with
  |none=>none
  |some (n,is)=>
   match Ma.zAO fh e (cd.map Prod.fst) is { A with below:=(A.st.length:Int)-n } with
   |none=>none
   |some (.error k)=>some (.error k)
   |some (.ok A2)=>Ma.zAC fh cd es A2
def Snd (b r:Option (Except Nat Ma)):Prop:=∀ q,b=some q->r=some q
variable {fh hf:Nat} {sl:List Nat} {A:Ma}
theorem Snd.none{r:Option (Except Nat Ma)}:Snd none r:=fun _ h=>by cases h
theorem Snd.refl(r:Option (Except Nat Ma)):Snd r r:=fun _ h=>h
theorem zAM(hl:fh<=hf){k:Nat}{f g:Ma->Option (Except Nat Ma)}(h:Snd (f A) (g A)):Snd (zBE fh k A f) (ask hf k A g):=fun q hq=>by
 unfold zBE at hq;split at hq
 ·next hc=>
  unfold ask;rw[if_pos (zAR hc.1 (zyR hc.2 hl))];exact h q hq
 ·cases hq
theorem zAF(hl:fh<=hf)(v:Int):Snd (A.zAI fh v) (A.zau hf v):=zAM hl (Snd.refl _)
theorem zA5(hl:fh<=hf)(nd:List Nat->Nd)(c:Nat):Snd (A.mkNB fh nd c) (A.mkN hf nd c):=zAM hl (Snd.refl _)
theorem zAJ(hl:fh<=hf)(w:Ma->Option Wd):Snd (A.zBa fh w) (A.zjF hf w):=zAM hl (Snd.refl _)
theorem zA8(hl:fh<=hf)(e:Option Bool)(sg:ByteArray)(he:∀ b l r,e=some b->A.zdW 1=some (.ok l)->A.zdW 0=some (.ok r)->decide (l=r)=b):Snd (A.zA2 fh e sg) (A.compute hf sg):=by
 unfold Ma.zA2 Ma.compute;cases h0:A.zdW 0 with
 |none=>exact Snd.none
 |some q0=>
  cases q0 with
  |error j=>exact Snd.none
  |ok r=>
   simp only;cases h1:A.zdW 1 with
   |none=>exact Snd.none
   |some q1=>
    cases q1 with
    |error j=>exact Snd.none
    |ok l=>
     simp only;unfold Ma.zBJ Ma.calc;by_cases s1:sg=⟨#[43]⟩
     ·rw[if_pos s1,if_pos s1];exact zAF hl _
     ·rw[if_neg s1,if_neg s1];by_cases s2:sg=⟨#[45]⟩
      ·rw[if_pos s2,if_pos s2];exact zAF hl _
      ·rw[if_neg s2,if_neg s2];by_cases s3:sg=⟨#[61,61]⟩
       ·rw[if_pos s3,s3,if_neg (by decide),if_neg (by decide),if_neg (by decide),if_pos rfl];cases e with
        |none=>exact Snd.none
        |some b=>
         have:=he b l r rfl h1 h0;rw[this];exact zA5 hl _ _
       ·rw[if_neg s3];exact Snd.none
theorem zBd(hl:fh<=hf){c:Nat}{A':Ma}(h:A.zA0 fh sl c=some A'):A.za5 hf sl c=some (.ok (true,A')):=by
 unfold Ma.zA0 at h;unfold Ma.za5;split at h
 ·next a ha=>
  rw[ha];simp only;split at h
  ·next b fs hn=>
   rw[hn];simp only;split at h
   ·cases h
   ·next n hb=>
    rw[hb];simp only;split at h
    ·next k=>
     obtain ⟨k1,k2,k3,k4,k5,k6,k7⟩:=k;rw[if_neg (by omega),if_neg (by omega),if_neg (by omega)];unfold Ma.call ask;rw[if_pos (zAR k1 (by omega))];simp only;rw[if_pos ⟨k6,k7⟩];cases h;rfl
    ·cases h
  ·cases h
 ·cases h
theorem zAH(hl:fh<=hf):∀ (g:Nat) (A:Ma),Snd (A.zAL fh sl g) (A.za1 hf sl g)
 |0,_=>Snd.none
 |g+1,A=>by
  rw[Ma.zAL,Ma.za1];split
  ·exact Snd.refl _
  ·cases h2:A.st[A.st.length-2]? with
   |none=>exact Snd.none
   |some w=>
    cases w with
    |ad a=>exact Snd.none
    |mk k b=>
     simp only;split
     ·exact Snd.none
     ·split
      ·cases h1:A.st[A.st.length-1]? with
       |none=>exact Snd.none
       |some wv=>
        cases wv with
        |mk _ _=>exact Snd.none
        |ad v=>
         simp only;split
         ·cases h3:A.st[A.st.length-3]? with
          |none=>exact Snd.none
          |some wc=>
           cases wc with
           |mk _ _=>exact Snd.none
           |ad c=>
            simp only;have ih:=zAH hl g { A with h:=A.h.set c (.fwd v),st:=zcE A.st 3++[.ad v] };cases hc:A.h[c]? with
            |none=>exact Snd.none
            |some nc=>
             cases nc with
             |busy=>
              cases hv:A.h[v]? with
              |none=>exact Snd.none
              |some nv=>cases nv <;> first|exact ih|exact Snd.none
             |_=>exact Snd.none
         ·exact Snd.none
      ·split
       ·exact Snd.refl _
       ·split
        ·intro q hq;rw[zyX]at hq;obtain ⟨A',h,rfl⟩:=hq;rw[zBd hl h];rfl
        ·exact Snd.none
theorem zAZ(hl:fh<=hf):Snd (A.zBg fh sl) (A.enter hf sl):=by
 unfold Ma.zBg Ma.enter;cases hs:A.st.getLast? with
 |none=>exact Snd.none
 |some w=>
  cases w with
  |mk _ _=>exact Snd.none
  |ad a=>
   simp only;cases hn:A.h[can A.h a]? with
   |none=>exact Snd.none
   |some nd=>
    cases nd with
    |num x=>exact zAH hl _ _
    |data t fs=>exact zAH hl _ _
    |busy=>exact Snd.none
    |fwd b=>exact Snd.none
    |clo b fs=>
     simp only;cases hb:sl[b]? with
     |none=>exact Snd.none
     |some n=>
      simp only;split
      ·exact zAM hl (Snd.refl _)
      ·split
       ·exact zAH hl _ _
       ·exact Snd.none
theorem zAT(hl:fh<=hf){t:Nat}{fs:List Nat}:∀ l,Snd (A.zA1 fh t fs l) (A.zcc hf t fs l)
 |[]=>Snd.none
 |(u,c,b)::l=>by
  rw[Ma.zA1,Ma.zcc];split
  ·split
   ·exact zAM hl (Snd.refl _)
   ·exact Snd.none
  ·exact zAT hl l
theorem zBt(hl:fh<=hf)(e:Option Bool)(i:Ins)(he:∀ b l r,e=some b->A.zdW 1=some (.ok l)->A.zdW 0=some (.ok r)->decide (l=r)=b):Snd (A.zA7 fh e sl i) (A.step hf sl i):=by
 cases i with
 |push k=>exact zAJ hl _
 |zcW f=>exact zAJ hl _
 |num x=>exact zAF hl _
 |pack t c=>
  simp only[Ma.zA7,Ma.step,Ma.zn5];split
  ·exact zA5 hl _ _
  ·exact Snd.none
 |close b c=>
  simp only[Ma.zA7,Ma.step,Ma.zpH];split
  ·exact zA5 hl _ _
  ·exact Snd.none
 |hold b c=>exact Snd.none
 |fill k c=>exact Snd.none
 |wait b=>
  simp only[Ma.zA7,Ma.step];split
  ·exact zAJ hl _
  ·exact Snd.none
 |zbF c=>
  simp only[Ma.zA7,Ma.step];split
  ·exact zAJ hl _
  ·exact Snd.none
 |zci c=>exact Snd.refl _
 |zbX=>
  simp only[Ma.zA7,Ma.step];cases h0:A.zdW 0 with
  |none=>exact Snd.none
  |some q=>cases q with
   |error j=>exact Snd.none
   |ok x=>exact Snd.refl _
 |comp sg=>exact zA8 hl e sg he
 |enter=>exact zAZ hl
 |jump b=>exact Snd.none
 |choose zao=>
  simp only[Ma.zA7,Ma.step,Ma.choose];cases hs:A.st.getLast? with
  |none=>exact Snd.none
  |some w=>
   cases w with
   |mk _ _=>exact Snd.none
   |ad a=>
    simp only;cases hn:A.h[a]? with
    |none=>exact Snd.none
    |some nd=>cases nd <;> first|exact Snd.none|exact zAT hl _
variable {fh hf:Nat} {sl:List Nat} {cd:List (Nat × List Ins)}
theorem zAW(hl:fh<=hf):∀ (is:List Ins) (A:Ma) (e:Option Bool),(∀ b l r,e=some b->A.zdW 1=some (.ok l)->A.zdW 0=some (.ok r)->decide (l=r)=b)->Snd (Ma.zAO fh e sl is A) (Ma.zbb hf sl is A)
 |[],_,_,_=>Snd.refl _
 |i::is,A,e,he=>by
  rw[Ma.zAO,Ma.zbb];split
  ·exact Snd.refl _
  ·intro q hq;cases hs:Ma.zA7 fh e sl { A with fuel:=A.fuel-1 } i with
   |none=>rw[hs]at hq;cases hq
   |some r=>
    rw[zBt (A:={ A with fuel:=A.fuel-1 }) hl e i he r hs];rw[hs]at hq;cases r with
    |error k=>exact hq
    |ok A2=>exact zAW hl is A2 none (fun b _ _ h=>by cases h) q hq
def Led (cd:List (Nat × List Ins)) (hf:Nat) (m:MSt) (n:Nat) (q:Except Nat Ma):Prop:=
 match q with
 |.error j=>∃ c,c<=n/\∀ g,m.work cd (g+c)=some (.error j)
 |.ok A'=>∃ m' φ',(∀ g,m.work cd (g+n)=m'.work cd g)/\MR (cd.map Prod.fst) hf m' A' φ'
theorem zBB(hl:fh<=hf){e:Option Bool}{m:MSt}{φ:Nat->Option Nat}(M:MR (cd.map Prod.fst) hf m A φ)(he:∀ b l r,e=some b->A.zdW 1=some (.ok l)->A.zdW 0=some (.ok r)->decide (l=r)=b){q:Except Nat Ma}(h:Ma.zAC fh cd [e] A=some q):Led cd hf m 1 q:=by
 rw[Ma.zAC]at h;split at h
 ·cases h
 ·next h2=>
  cases hc:cd[A.next.toNat]? with
  |none=>rw[hc]at h;cases h
  |some b=>
   obtain ⟨n,is⟩:=b;rw[hc]at h;simp only at h;have fg:=M.rel.tp;have M1:MR (cd.map Prod.fst) hf { m with o:={ m.o with below:=(m.s.low:Int)+(m.s.half:Int)-(m.s.top:Int)-(n:Int) } } { A with below:=(A.st.length:Int)-n } φ:=⟨M.rel,M.half,M.fuel,M.next,by simp only;omega,M.vi⟩;have hw:∀ g,m.work cd (g+1)=(match ({ m with o:={ m.o with below:=(m.s.low:Int)+(m.s.half:Int)-(m.s.top:Int)-(n:Int) } }:MSt).zbb (cd.map Prod.fst) is with|none=>none|some (.error k)=>some (.error k)|some (.ok m2)=>m2.work cd g):=fun g=>by
    rw[MSt.work,M.next,if_neg (by omega),if_neg h2,hc];rfl
   cases hs:Ma.zAO fh e (cd.map Prod.fst) is { A with below:=(A.st.length:Int)-n } with
   |none=>rw[hs]at h;cases h
   |some r=>
    rw[hs]at h;have hr:=zlK is _ _ φ M1 r (zAW hl is { A with below:=(A.st.length:Int)-n } e he r hs);cases r with
    |error k=>
     simp only at hr h;cases h;exact ⟨1,zyN _,fun g=>by rw[hw,hr]⟩
    |ok A2=>
     simp only at hr h;cases h;obtain ⟨m2,φ2,g1,g2⟩:=hr;exact ⟨m2,φ2,fun g=>by rw[hw,g1],g2⟩
theorem zAG(e:Option Bool)(es:List (Option Bool))(A:Ma):Ma.zAC fh cd (e::es) A=(match Ma.zAC fh cd [e] A with|none=>none|some (.error k)=>some (.error k)|some (.ok A2)=>Ma.zAC fh cd es A2):=by
 rw[Ma.zAC,Ma.zAC];split
 ·rfl
 ·cases cd[A.next.toNat]? with
  |none=>rfl
  |some b=>
   simp only;cases Ma.zAO fh e (cd.map Prod.fst) b.2 { A with below:=(A.st.length:Int)-b.1 } with
   |none=>rfl
   |some r=>cases r <;> rfl
theorem zAK(hl:fh<=hf):∀ (n:Nat) {A:Ma} {m:MSt} {φ:Nat->Option Nat} {q:Except Nat Ma},MR (cd.map Prod.fst) hf m A φ->Ma.zAC fh cd (List.replicate n none) A=some q->Led cd hf m n q
 |0,A,m,φ,q,M,h=>by
  cases h;exact ⟨m,φ,fun g=>rfl,M⟩
 |n+1,A,m,φ,q,M,h=>by
  rw[zz4,zAG]at h;cases h1:Ma.zAC fh cd [none] A with
  |none=>rw[h1]at h;cases h
  |some r=>
   rw[h1]at h;have hb:=zBB hl M (fun b _ _ h=>by cases h) h1;cases r with
   |error k=>
    simp only at h;cases h;obtain ⟨c,c1,c2⟩:=hb;exact ⟨c,by omega,c2⟩
   |ok A2=>
    obtain ⟨m2,φ2,w2,M2⟩:=hb;have hn:=zAK hl n M2 h;cases q with
    |error j=>
     obtain ⟨c,c1,hc⟩:=hn;exact ⟨c+1,by omega,fun g=>by rw[<-Nat.add_assoc,w2,hc]⟩
    |ok A'=>
     obtain ⟨m',φ',w',M'⟩:=hn;exact ⟨m',φ',fun g=>by rw[<-Nat.add_assoc,w2,w'],M'⟩
def rnA (ρ:List Nat) (a:Nat):Option Nat:=if a∈ρ then some (ρ.idxOf a) else none
def rnL (ρ:List Nat):List Nat->Option (List Nat)
 |[]=>some []
 |a::l=>match rnA ρ a,rnL ρ l with|some b,some k=>some (b::k)|_,_=>none
def rnN (ρ:List Nat):Nd->Option Nd
 |.data t fs=>(rnL ρ fs).map (.data t)
 |.clo b fs=>(rnL ρ fs).map (.clo b)
 |.fwd b=>(rnA ρ b).map .fwd
 |nd=>some nd
def rnH (ρ:List Nat) (h:List Nd):List Nat->Option (List Nd)
 |[]=>some []
 |o::l=>match (h[o]?).bind (rnN ρ),rnH ρ h l with|some n,some k=>some (n::k)|_,_=>none
def rnS (ρ:List Nat):List Wd->Option (List Wd)
 |[]=>some []
 |.ad a::l=>match rnA ρ a,rnS ρ l with|some b,some k=>some (.ad b::k)|_,_=>none
 |.mk x b::l=>(rnS ρ l).map (.mk x b::·)
def Ma.cut (ρ:List Nat) (A:Ma):Option Ma:=
 if ρ.Nodup then
  match rnH ρ A.h ρ,rnS ρ A.st,rnL ρ A.fns with
  |some h,some st,some fns=>some { A with h:=h,st:=st,fns:=fns }
  |_,_,_=>none
 else none
variable {ρ:List Nat}
theorem zAV{a b:Nat}(h:rnA ρ a=some b):ρ[b]?=some a:=by
 unfold rnA at h;split at h
 ·next hm=>
  cases h;rw[zyM (zzF hm)];simp
 ·cases h
theorem zA6{ρ:List Nat}:∀ {l k:List Nat},rnL ρ l=some k->k.length=l.length/\∀ (i b:Nat),k[i]?=some b->∃ a,l[i]?=some a/\ρ[b]?=some a
 |[],k,h=>by cases h;exact ⟨rfl,by simp⟩
 |a::l,k,h=>by
  rw[rnL]at h;split at h
  ·next b k' h1 h2=>
   cases h;obtain ⟨e1,e2⟩:=zA6 h2;refine ⟨by simp[e1],fun i c hc=>?_⟩;cases i with
   |zero=>simp at hc;subst hc;exact ⟨a,rfl,zAV h1⟩
   |succ i=>simpa using e2 i c (by simpa using hc)
  ·cases h
theorem zBf{ρ:List Nat}:∀ {l k:List Wd},rnS ρ l=some k->k.length=l.length/\∀ (i:Nat) (w:Wd),k[i]?=some w->(∃ a b,w=.ad b/\l[i]?=some (.ad a)/\ρ[b]?=some a)\/(∃ x b,w=.mk x b/\l[i]?=some (.mk x b))
 |[],k,h=>by cases h;exact ⟨rfl,by simp⟩
 |.ad a::l,k,h=>by
  rw[rnS]at h;split at h
  ·next b k' h1 h2=>
   cases h;obtain ⟨e1,e2⟩:=zBf h2;refine ⟨by simp[e1],fun i c hc=>?_⟩;cases i with
   |zero=>simp at hc;subst hc;exact .inl ⟨a,b,rfl,rfl,zAV h1⟩
   |succ i=>simpa using e2 i c (by simpa using hc)
  ·cases h
 |.mk x b::l,k,h=>by
  rw[rnS,zyX]at h;obtain ⟨k',h2,rfl⟩:=h;obtain ⟨e1,e2⟩:=zBf h2;refine ⟨by simp[e1],fun i c hc=>?_⟩;cases i with
  |zero=>simp at hc;subst hc;exact .inr ⟨x,b,rfl,rfl⟩
  |succ i=>simpa using e2 i c (by simpa using hc)
theorem zBs{ρ:List Nat}{h:List Nd}:∀ {l:List Nat} {k:List Nd},rnH ρ h l=some k->k.length=l.length/\∀ (i:Nat) (n:Nd),k[i]?=some n->∃ o nd,l[i]?=some o/\h[o]?=some nd/\rnN ρ nd=some n
 |[],k,e=>by cases e;exact ⟨rfl,by simp⟩
 |o::l,k,e=>by
  rw[rnH]at e;split at e
  ·next n k' h1 h2=>
   cases e;obtain ⟨e1,e2⟩:=zBs h2;refine ⟨by simp[e1],fun i c hc=>?_⟩;cases i with
   |zero=>
    simp at hc;subst hc;rw[zyQ]at h1;obtain ⟨nd,n1,n2⟩:=h1;exact ⟨o,nd,rfl,n1,n2⟩
   |succ i=>simpa using e2 i c (by simpa using hc)
  ·cases e
theorem zAP{nd n:Nd}(e:rnN ρ nd=some n):sz n=sz nd/\hdr n=hdr nd/\zaV n=zaV nd/\(zo6 nd->zo6 n)/\(∀ v,n=.num v->nd=.num v)/\(zdd n).length=(zdd nd).length/\(∀ (i b:Nat),(zdd n)[i]?=some b->∃ a,(zdd nd)[i]?=some a/\ρ[b]?=some a)/\(∀ b,n=.fwd b->∃ a,nd=.fwd a/\ρ[b]?=some a)/\(val sl nd->val sl n):=by
 cases nd with
 |num v=>cases e;exact ⟨rfl,rfl,rfl,id,fun _ h=>h,rfl,fun i b h=>(by simp[zdd]at h),fun b h=>(by cases h),id⟩
 |busy=>cases e;exact ⟨rfl,rfl,rfl,id,fun _ h=>h,rfl,fun i b h=>(by simp[zdd]at h),fun b h=>(by cases h),id⟩
 |data t fs=>
  simp only[rnN,zyX]at e;obtain ⟨k,h1,rfl⟩:=e;obtain ⟨e1,e2⟩:=zA6 h1;exact ⟨by simp[sz,e1],by simp[hdr,e1],rfl,fun h=>⟨h.1,by rw[e1];exact h.2⟩,fun v h=>(by cases h),e1,e2,fun b h=>(by cases h),id⟩
 |clo t fs=>
  simp only[rnN,zyX]at e;obtain ⟨k,h1,rfl⟩:=e;obtain ⟨e1,e2⟩:=zA6 h1;exact ⟨by simp[sz,e1],by simp[hdr,e1],rfl,fun h=>⟨h.1,by rw[e1];exact h.2⟩,fun v h=>(by cases h),e1,e2,fun b h=>(by cases h),fun ⟨n,a,b⟩=>⟨n,a,by rw[e1];exact b⟩⟩
 |fwd b=>
  simp only[rnN,zyX]at e;obtain ⟨k,h1,rfl⟩:=e;exact ⟨rfl,rfl,rfl,fun _=>trivial,fun v h=>(by cases h),rfl,fun i b h=>(by simp[zdd]at h),fun b h=>(by cases h;exact ⟨_,rfl,zAV h1⟩),fun h=>h.elim⟩
theorem zBL{sl:List Nat}{hf:Nat}{m:MSt}{A':Ma}{φ:Nat->Option Nat}(M:MR sl hf m A φ)(hc:A.cut ρ=some A'):MR sl hf m A' fun i=>(ρ[i]?).bind φ:=by
 unfold Ma.cut at hc;split at hc
 ·next eZ=>
  split at hc
  ·next h' st' cI e1 e2 e3=>
   cases hc;have R:=M.rel;obtain ⟨l1,g1⟩:=zBs e1;obtain ⟨l2,g2⟩:=zBf e2;obtain ⟨l3,g3⟩:=zA6 e3;have node:∀ {a b:Nat} {nd:Nd},ρ[b]?=some a->A.h[a]?=some nd->∃ n,h'[b]?=some n/\rnN ρ nd=some n:=fun {a b nd} hb hn=>by
    have hl:=(zyL.1 hb).1;have hx:h'[b]?=some (h'[b]'(by omega)):=zyM (by omega);obtain ⟨o,nd',k1,k2,k3⟩:=g1 b _ hx;rw[hb]at k1;cases k1;rw[hn]at k2;cases k2;exact ⟨_,hx,k3⟩
   have back:∀ {b:Nat} {n:Nd},h'[b]?=some n->∃ a nd,ρ[b]?=some a/\A.h[a]?=some nd/\rnN ρ nd=some n:=fun {b n} hb=>g1 b n hb
   have ph:∀ {a b:Nat},ρ[b]?=some a->(ρ[b]?).bind φ=φ a:=fun {a b} hb=>by rw[hb];rfl
   have rf:∀ {x:Int} {a b:Nat},ρ[b]?=some a->Rf φ A.h x a->Rf (fun i=>(ρ[i]?).bind φ) h' x b:=fun {x a b} hb ⟨p,hx,hp⟩=>by
    refine ⟨p,hx,?_⟩;rcases hp with hp|⟨c,c1,c2⟩
    ·exact .inl (by simp only;rw[ph hb];exact hp)
    ·obtain ⟨n,n1,n2⟩:=node hb c1;simp only[rnN,zyX]at n2;obtain ⟨c',k1,rfl⟩:=n2;exact .inr ⟨c',n1,by simp only;rw[ph (zAV k1)];exact c2⟩
   have inj:∀ {b b' a:Nat},ρ[b]?=some a->ρ[b']?=some a->b=b':=fun {b b' a} h1 h2=>by
    have k1:=(zyL.1 h1);have k2:=(zyL.1 h2);exact (List.getElem_inj eZ).1 (k1.2.trans k2.2.symm)
   have of:∀ {b p:Nat},(ρ[b]?).bind φ=some p->∃ a,ρ[b]?=some a/\φ a=some p:=fun {b p} h=>by
    rw[zyQ]at h;exact h
   refine ⟨⟨R.low,R.len,R.wl,R.lf,R.ft,by simp only;rw[l2];exact R.tp,fun i w hw=>?_,by simp only;rw[l3];exact R.fl,fun i b hb=>?_,fun b p hp=>?_,fun b b' p p' n n' h1 h2 h3 h4 h5=>?_,fun b n hb=>?_,fun b c hb=>?_⟩,M.half,M.fuel,M.next,M.below,fun b c hb=>?_⟩
   ·rcases g2 i w hw with ⟨a,b,rfl,k1,k2⟩|⟨y,b,rfl,k1⟩
    ·obtain ⟨x,x1,x2⟩:=R.stk i _ k1;exact ⟨x,x1,rf k2 x2⟩
    ·obtain ⟨x,x1,x2⟩:=R.stk i _ k1;exact ⟨x,x1,x2⟩
   ·obtain ⟨a,k1,k2⟩:=g3 i b hb;obtain ⟨x,x1,x2⟩:=R.fn i a k1;exact ⟨x,x1,rf k2 x2⟩
   ·obtain ⟨a,k1,k2⟩:=of hp;obtain ⟨nd,d1,d2,d3,d4⟩:=R.nod a p k2;obtain ⟨n,n1,n2⟩:=node k1 d1;obtain ⟨z1,z2,z3,_,z5,_,z7,z8,_⟩:=zAP (sl:=sl) n2;refine ⟨n,n1,d2,by rw[z1];exact d3,?_⟩;rcases d4 with ⟨c,p',rfl,c2,c3⟩|⟨f1,f2,f3,f4⟩
    ·simp only[rnN,zyX]at n2;obtain ⟨c',k3,rfl⟩:=n2;exact .inl ⟨c',p',rfl,by simp only;rw[ph (zAV k3)];exact c2,c3⟩
    ·refine .inr ⟨by rw[z3];exact f1,by rw[z2];exact f2,fun v hv=>f3 v (z5 v hv),fun i b' pR=>?_⟩;obtain ⟨a',y1,y2⟩:=z7 i b' pR;obtain ⟨x,x1,x2⟩:=f4 i a' y1;exact ⟨x,x1,rf y2 x2⟩
   ·obtain ⟨a,k1,k2⟩:=of h1;obtain ⟨a',k3,k4⟩:=of h2;obtain ⟨o,nd,o1,o2,o3⟩:=back h3;obtain ⟨o',nd',o4,o5,o6⟩:=back h4;rw[k1]at o1;cases o1;rw[k3]at o4;cases o4;rw[(zAP (sl:=sl) o3).1,(zAP (sl:=sl) o6).1];exact R.dis a a' p p' nd nd' k2 k4 o2 o5 (fun e=>h5 (inj k1 (by rw[e];exact k3)))
   ·obtain ⟨a,nd,k1,k2,k3⟩:=back hb;exact (zAP (sl:=sl) k3).2.2.2.1 (R.ok a nd k2)
   ·obtain ⟨a,nd,k1,k2,k3⟩:=back hb;obtain ⟨c',rfl,k5⟩:=(zAP (sl:=sl) k3).2.2.2.2.2.2.2.1 c rfl;obtain ⟨Im,y1,y2⟩:=R.fw a c' k2;obtain ⟨n,n1,n2⟩:=node k5 y1;exact ⟨n,n1,by rw[(zAP (sl:=sl) n2).2.2.1];exact y2⟩
   ·obtain ⟨a,nd,k1,k2,k3⟩:=back hb;obtain ⟨c',rfl,k5⟩:=(zAP (sl:=sl) k3).2.2.2.2.2.2.2.1 c rfl;obtain ⟨Im,y1,y2⟩:=M.vi a c' k2;obtain ⟨n,n1,n2⟩:=node k5 y1;exact ⟨n,n1,(zAP (sl:=sl) n2).2.2.2.2.2.2.2.2 y2⟩
  ·cases hc
 ·cases hc
end Ab
end Go.Proofs.YtgahgkddaljmkaaGreatDoor
