/- Cn1 .. Cn2 -/
import Derived.Test.YtgahgkddaljmkaaGreatDoorZ23
set_option maxRecDepth 100000
set_option maxHeartbeats 4000000
namespace Go.Proofs.YtgahgkddaljmkaaGreatDoor
open Tryz
namespace Cn
open Ab
def cdV (v:Nat) (N:Int):List (Nat × List Ins):=
 match v with
 |0=>[(1,[.push 0,.wait 7,.wait 9,.push 0,.zci 4,.enter]),(0,[.num N,.zbF 1,.zcW 0,.zci 3,.enter]),(1,[.num 7,.zci 1,.enter]),(2,[.comp ⟨#[45]⟩,.enter]),(1,[.zbX,.push 0,.wait 3,.num 1,.zci 3,.enter]),(1,[.wait 4,.push 0,.zci 2,.enter]),(1,[.push 0,.close 5 1,.zbF 1,.zcW 0,.zci 3,.enter]),(2,[.choose [(2,0,2),(1,0,6)]]),(2,[.comp ⟨#[61,61]⟩,.enter]),(1,[.zbX,.push 0,.wait 8,.num 0,.zci 3,.enter])]
 |v=>[(3,[.push (v-1),.push (2-v),.push 2,.wait 7,.wait 9,.push 2,.zci 6,.enter]),(0,[.num 2,.num 1,.num N,.zbF 3,.zcW 0,.zci 5,.enter]),(3,[.num 7,.zci 1,.enter]),(2,[.comp ⟨#[45]⟩,.enter]),(1,[.zbX,.push 0,.wait 3,.num 1,.zci 3,.enter]),(1,[.wait 4,.push 0,.zci 2,.enter]),(3,[.push 0,.push 1,.push 2,.close 5 1,.zbF 3,.zcW 0,.zci 5,.enter]),(4,[.choose [(2,0,2),(1,0,6)]]),(2,[.comp ⟨#[61,61]⟩,.enter]),(1,[.zbX,.push 0,.wait 8,.num 0,.zci 3,.enter])]
def shp (v j:Nat) (y p q:Int) (f:Nat):Ma:=
 match v,j with
 |0,0=>⟨[.clo 0 [],.busy,.num y],[.ad 1,.mk 0 0,.ad 2],[0,1],f,0,2⟩
 |0,1=>⟨[.clo 0 [],.busy,.num y,.clo 5 [2]],[.ad 1,.mk 0 0,.ad 3],[0,1],f,0,2⟩
 |0,_=>⟨[.clo 0 [],.busy,.num y,.fwd 2,.clo 5 [3]],[.ad 1,.mk 0 0,.ad 4],[0,1],f,0,2⟩
 |_,0=>⟨[.clo 0 [],.busy,.num p,.num q,.num y],[.ad 1,.mk 0 0,.ad 2,.ad 3,.ad 4],[0,1],f,0,2⟩
 |_,1=>⟨[.clo 0 [],.busy,.num p,.num q,.num y,.clo 5 [4]],[.ad 1,.mk 0 0,.ad 2,.ad 3,.ad 5],[0,1],f,0,2⟩
 |_,_=>⟨[.clo 0 [],.busy,.num p,.num q,.num y,.fwd 4,.clo 5 [5]],[.ad 1,.mk 0 0,.ad 2,.ad 3,.ad 6],[0,1],f,0,2⟩
def rh (v j:Nat):List Nat:=
 match v,j with
 |0,0=>[0,1,2,5]
 |0,1=>[0,1,5,3,8]
 |0,_=>[0,1,6,4,9]
 |v,0=>[0,1,1+v,4-v,4,7]
 |v,1=>[0,1,1+v,4-v,7,5,10]
 |v,_=>[0,1,1+v,4-v,8,6,11]
def nx (j:Nat):Nat:=if j=0 then 1 else 2
def nb (j:Nat):Nat:=if j=0 then 2 else 5
def f1 (v j:Nat):Nat:=(if v=0 then 12 else 14)+(if j=0 then 0 else 12)
def fr (v:Nat):Nat:=if v=0 then 9 else 11
def nv (j:Nat) (y:Int):Int:=if j=0 then y else IntKind.i64.wrap (y-1)
def sw (v:Nat) (p q:Int):Int:=if v=2 then q else p
def okM (q:Option (Except Nat Ma)):Option Ma:=match q with|some (.ok A)=>some A|_=>none
def two (A:Ma):Option (Int × Int):=match A.zdW 1,A.zdW 0 with|some (.ok l),some (.ok r)=>some (l,r)|_,_=>none
def pre (v j:Nat) (N:Int) (A:Ma):Option (Except Nat Ma):=Ma.zAC 300 (cdV v N) (List.replicate (nb j) none) A
def all (v j:Nat) (b:Bool) (N:Int) (A:Ma):Option (Except Nat Ma):=Ma.zAC 300 (cdV v N) (List.replicate (nb j) none++[some b,none,none]) A
structure Rows (v j:Nat):Prop where
 p1:∀ N y p q f,(okM (pre v j N (shp v j y p q (f+f1 v j)))).bind two=some (nv j y,0)
 e1:∀ N y p q,(List.range (f1 v j)).map (fun f=>pre v j N (shp v j y p q f))=(List.range (f1 v j)).map fun _=>some (.error 5)
 go:∀ N y p q f,(okM (all v j false N (shp v j y p q (f+fr v+f1 v j)))).bind (Ma.cut (rh v j))=some (shp v (nx j) (nv j y) (sw v p q) (sw v q p) f)
 e2:∀ N y p q,(List.range (fr v)).map (fun f=>all v j false N (shp v j y p q (f+f1 v j)))=(List.range (fr v)).map fun _=>some (.error 5)
 fin:∀ N y p q f,(okM (all v j true N (shp v j y p q (f+6+f1 v j)))).bind (fun B=>if B.next=-1 then B.told else none)=some (1,7,0,0)
 e3:∀ N y p q,(List.range 6).map (fun f=>all v j true N (shp v j y p q (f+f1 v j)))=(List.range 6).map fun _=>some (.error 5)
theorem zBO:Rows 0 0:=⟨fun N y p q f=>by kernel_rfl,fun N y p q=>by kernel_rfl,fun N y p q f=>by kernel_rfl,fun N y p q=>by kernel_rfl,fun N y p q f=>by kernel_rfl,fun N y p q=>by kernel_rfl⟩
theorem zBP:Rows 0 1:=⟨fun N y p q f=>by kernel_rfl,fun N y p q=>by kernel_rfl,fun N y p q f=>by kernel_rfl,fun N y p q=>by kernel_rfl,fun N y p q f=>by kernel_rfl,fun N y p q=>by kernel_rfl⟩
theorem zBQ:Rows 0 2:=⟨fun N y p q f=>by kernel_rfl,fun N y p q=>by kernel_rfl,fun N y p q f=>by kernel_rfl,fun N y p q=>by kernel_rfl,fun N y p q f=>by kernel_rfl,fun N y p q=>by kernel_rfl⟩
theorem zBR:Rows 1 0:=⟨fun N y p q f=>by kernel_rfl,fun N y p q=>by kernel_rfl,fun N y p q f=>by kernel_rfl,fun N y p q=>by kernel_rfl,fun N y p q f=>by kernel_rfl,fun N y p q=>by kernel_rfl⟩
theorem zBS:Rows 1 1:=⟨fun N y p q f=>by kernel_rfl,fun N y p q=>by kernel_rfl,fun N y p q f=>by kernel_rfl,fun N y p q=>by kernel_rfl,fun N y p q f=>by kernel_rfl,fun N y p q=>by kernel_rfl⟩
theorem zBT:Rows 1 2:=⟨fun N y p q f=>by kernel_rfl,fun N y p q=>by kernel_rfl,fun N y p q f=>by kernel_rfl,fun N y p q=>by kernel_rfl,fun N y p q f=>by kernel_rfl,fun N y p q=>by kernel_rfl⟩
theorem zBU:Rows 2 0:=⟨fun N y p q f=>by kernel_rfl,fun N y p q=>by kernel_rfl,fun N y p q f=>by kernel_rfl,fun N y p q=>by kernel_rfl,fun N y p q f=>by kernel_rfl,fun N y p q=>by kernel_rfl⟩
theorem zBV:Rows 2 1:=⟨fun N y p q f=>by kernel_rfl,fun N y p q=>by kernel_rfl,fun N y p q f=>by kernel_rfl,fun N y p q=>by kernel_rfl,fun N y p q f=>by kernel_rfl,fun N y p q=>by kernel_rfl⟩
theorem zBW:Rows 2 2:=⟨fun N y p q f=>by kernel_rfl,fun N y p q=>by kernel_rfl,fun N y p q f=>by kernel_rfl,fun N y p q=>by kernel_rfl,fun N y p q f=>by kernel_rfl,fun N y p q=>by kernel_rfl⟩
theorem rows{v j:Nat}(hv:v<3)(hj:j<3):Rows v j:=by
 have h1:v=0\/v=1\/v=2:=by omega
 have h2:j=0\/j=1\/j=2:=by omega
 rcases h1 with rfl|rfl|rfl <;> rcases h2 with rfl|rfl|rfl
 ·exact zBO
 ·exact zBP
 ·exact zBQ
 ·exact zBR
 ·exact zBS
 ·exact zBT
 ·exact zBU
 ·exact zBV
 ·exact zBW
end Cn
end Go.Proofs.YtgahgkddaljmkaaGreatDoor
namespace Go.Proofs.YtgahgkddaljmkaaGreatDoor
open Tryz
namespace Ab
variable {fh hf:Nat} {cd:List (Nat × List Ins)}
theorem zAS:∀ (es Ii:List (Option Bool)) (A:Ma),Ma.zAC fh cd (es++Ii) A=(match Ma.zAC fh cd es A with|none=>none|some (.error k)=>some (.error k)|some (.ok A2)=>Ma.zAC fh cd Ii A2)
 |[],Ii,A=>rfl
 |e::es,Ii,A=>by
  rw[zy7,zAG,zAG (es:=es)];cases Ma.zAC fh cd [e] A with
  |none=>rfl
  |some r=>
   cases r with
   |error k=>rfl
   |ok A2=>exact zAS es Ii A2
variable {m m':MSt}{n k:Nat}
theorem Led.trans{q:Except Nat Ma}(hw:∀ g,m.work cd (g+n)=m'.work cd g)(h:Led cd hf m' k q):Led cd hf m (k+n) q:=by
 cases q with
 |error j=>
  obtain ⟨c,c1,hc⟩:=h;exact ⟨c+n,by omega,fun g=>by rw[<-Nat.add_assoc,hw,hc]⟩
 |ok A'=>
  obtain ⟨m2,φ2,w2,M2⟩:=h;exact ⟨m2,φ2,fun g=>by rw[<-Nat.add_assoc,hw,w2],M2⟩
theorem Led.more{j:Nat}(h:Led cd hf m n (.error j))(hk:n<=k):Led cd hf m k (.error j):=by
 obtain ⟨c,c1,hc⟩:=h;exact ⟨c,by omega,hc⟩
theorem zBi(hl:fh<=hf){b:Bool}{A:Ma}{φ:Nat->Option Nat}{q:Except Nat Ma}(M:MR (cd.map Prod.fst) hf m A φ)(hc:∀ A1,Ma.zAC fh cd (List.replicate n none) A=some (.ok A1)->∀ l r,A1.zdW 1=some (.ok l)->A1.zdW 0=some (.ok r)->decide (l=r)=b)(h:Ma.zAC fh cd (List.replicate n none++[some b,none,none]) A=some q):Led cd hf m (n+3) q:=by
 rw[zAS]at h;cases h1:Ma.zAC fh cd (List.replicate n none) A with
 |none=>rw[h1]at h;cases h
 |some r1=>
  rw[h1]at h;have L1:=zAK hl n M h1;cases r1 with
  |error j=>
   simp only at h;cases h;exact L1.more (by omega)
  |ok A1=>
   obtain ⟨m1,φ1,w1,M1⟩:=L1;simp only at h;rw[zAG]at h;cases h2:Ma.zAC fh cd [some b] A1 with
   |none=>rw[h2]at h;cases h
   |some r2=>
    rw[h2]at h;have L2:=zBB hl M1 (fun b' l r e k1 k0=>by cases e;exact hc A1 h1 l r k1 k0) h2;cases r2 with
    |error j=>
     simp only at h;cases h;exact (L2.trans w1).more (by omega)
    |ok A2=>
     obtain ⟨m2,φ2,w2,M2⟩:=L2;have:=((zAK hl 2 M2 h).trans w2).trans w1
     rwa [show 2+1+n=n+3 by omega]at this
end Ab
namespace Cn
open Ab
def zBA (cd:List (Nat × List Ins)) (m:MSt) (n:Nat):Prop:=∃ c,c<=n/\∀ g,m.work cd (g+c)=some (.error 5)
def zBz (cd:List (Nat × List Ins)) (m:MSt) (n:Nat):Prop:=∃ m' A' φ' c,c<=n/\(∀ g,m.work cd (g+c)=m'.work cd g)/\MR (cd.map Prod.fst) 300 m' A' φ'/\A'.next=-1/\A'.told=some (1,7,0,0)
variable {cd:List (Nat × List Ins)}{m m':MSt}{n k:Nat}
theorem zBA.lead(hw:∀ g,m.work cd (g+n)=m'.work cd g)(h:zBA cd m' k):zBA cd m (k+n):=by
 obtain ⟨c,c1,hc⟩:=h;exact ⟨c+n,by omega,fun g=>by rw[<-Nat.add_assoc,hw,hc]⟩
theorem zBz.lead(hw:∀ g,m.work cd (g+n)=m'.work cd g)(h:zBz cd m' k):zBz cd m (k+n):=by
 obtain ⟨m2,A2,φ2,c,c1,hc,r⟩:=h;exact ⟨m2,A2,φ2,c+n,by omega,fun g=>by rw[<-Nat.add_assoc,hw,hc],r⟩
theorem zBA.more(h:zBA cd m n)(hk:n<=k):zBA cd m k:=by
 obtain ⟨c,c1,hc⟩:=h;exact ⟨c,by omega,hc⟩
theorem zBz.more(h:zBz cd m n)(hk:n<=k):zBz cd m k:=by
 obtain ⟨m2,A2,φ2,c,c1,r⟩:=h;exact ⟨m2,A2,φ2,c,by omega,r⟩
def cost (v:Nat):Nat->Nat->Nat
 |0,j=>6+f1 v j
 |x+1,j=>fr v+f1 v j+cost v x (nx j)
theorem zBh{q:Option (Except Nat Ma)}{A:Ma}(h:okM q=some A):q=some (.ok A):=by
 unfold okM at h;split at h
 ·cases h;rfl
 ·cases h
theorem zBb{m:Nat}{g:Nat->Option (Except Nat Ma)}(h:(List.range m).map g=(List.range m).map fun _=>some (.error 5)){f:Nat}(hf:f<m):g f=some (.error 5):=List.map_inj_left.1 h f (List.mem_range.2 hf)
theorem loop{v:Nat}(hv:v<3)(N:Int):∀ (x:Nat) {j:Nat} {y p q:Int} {f:Nat} {m:MSt} {φ:Nat->Option Nat},j<3->x<=10000->nv j y=x->MR ((cdV v N).map Prod.fst) 300 m (shp v j y p q f) φ->(f<cost v x j->zBA (cdV v N) m (8*x+8))/\(cost v x j<=f->zBz (cdV v N) m (8*x+8)):=by
 intro x
 induction x with
 |zero=>
  intro j y p q f m φ hj _ hy M;have R:=rows hv hj;have iJ:nb j<=5:=by unfold nb;split <;> omega
  by_cases h1:f<f1 v j
  ·exact ⟨fun _=>by obtain ⟨c,c1,hc⟩:=zAK (zyN _) (nb j) M (zBb (R.e1 N y p q) h1);exact ⟨c,by omega,hc⟩,fun hh=>by rw[cost]at hh;omega⟩
  ·obtain ⟨f',rfl⟩:∃ f',f=f'+f1 v j:=⟨f-f1 v j,by omega⟩;have hp:=R.p1 N y p q f';rw[zyQ]at hp;obtain ⟨A1,a1,a2⟩:=hp;have a1:=zBh a1;have l7:∀ A2,Ma.zAC 300 (cdV v N) (List.replicate (nb j) none) (shp v j y p q (f'+f1 v j))=some (.ok A2)->∀ l r,A2.zdW 1=some (.ok l)->A2.zdW 0=some (.ok r)->decide (l=r)=true:=fun A2 e l r k1 k0=>by
    rw[show Ma.zAC 300 (cdV v N) (List.replicate (nb j) none) (shp v j y p q (f'+f1 v j))=some (.ok A1) from a1]at e;cases e;unfold two at a2;rw[k1,k0]at a2;simp only[zyP,zzL]at a2;rw[a2.1,a2.2,hy];rfl
   by_cases h2:f' < 6
   ·refine ⟨fun _=>?_,fun hh=>by rw[cost]at hh;omega⟩;obtain ⟨c,c1,hc⟩:=zBi (zyN _) M l7 (zBb (R.e3 N y p q) h2);exact ⟨c,by omega,hc⟩
   ·obtain ⟨q7,rfl⟩:∃ q7,f'=q7+6:=⟨f' - 6,by omega⟩;refine ⟨fun hh=>by rw[cost]at hh;omega,fun _=>?_⟩;have hf:=R.fin N y p q q7;rw[zyQ]at hf;obtain ⟨B,b1,b2⟩:=hf;obtain ⟨m',φ',w',M'⟩:=zBi (zyN _) M l7 (zBh b1);split at b2
    ·next hn=>exact ⟨m',B,φ',nb j+3,by omega,w',M',hn,b2⟩
    ·cases b2
 |succ x ih=>
  intro j y p q f m φ hj hx hy M;have R:=rows hv hj;have iJ:nb j<=5:=by unfold nb;split <;> omega
  by_cases h1:f<f1 v j
  ·exact ⟨fun _=>by obtain ⟨c,c1,hc⟩:=zAK (zyN _) (nb j) M (zBb (R.e1 N y p q) h1);exact ⟨c,by omega,hc⟩,fun hh=>by rw[cost]at hh;omega⟩
  ·obtain ⟨f',rfl⟩:∃ f',f=f'+f1 v j:=⟨f-f1 v j,by omega⟩;have hp:=R.p1 N y p q f';rw[zyQ]at hp;obtain ⟨A1,a1,a2⟩:=hp;have a1:=zBh a1;have l7:∀ A2,Ma.zAC 300 (cdV v N) (List.replicate (nb j) none) (shp v j y p q (f'+f1 v j))=some (.ok A2)->∀ l r,A2.zdW 1=some (.ok l)->A2.zdW 0=some (.ok r)->decide (l=r)=false:=fun A2 e l r k1 k0=>by
    rw[show Ma.zAC 300 (cdV v N) (List.replicate (nb j) none) (shp v j y p q (f'+f1 v j))=some (.ok A1) from a1]at e;cases e;unfold two at a2;rw[k1,k0]at a2;simp only[zyP,zzL]at a2;rw[a2.1,a2.2,hy];exact decide_eq_false (by omega)
   by_cases h2:f' < fr v
   ·refine ⟨fun _=>?_,fun hh=>by rw[cost]at hh;omega⟩;obtain ⟨c,c1,hc⟩:=zBi (zyN _) M l7 (zBb (R.e2 N y p q) h2);exact ⟨c,by omega,hc⟩
   ·obtain ⟨q7,rfl⟩:∃ q7,f'=q7+fr v:=⟨f' - fr v,by omega⟩;have hf:=R.go N y p q q7;rw[zyQ]at hf;obtain ⟨B,b1,b2⟩:=hf;obtain ⟨m',φ',w',M'⟩:=zBi (zyN _) M l7 (zBh b1);have gx:nx j≠0/\nx j<3:=by unfold nx;split <;> omega
    have h3:nv (nx j) (nv j y)=(x:Int):=by
     rw[hy];unfold nv;rw[if_neg gx.1,IntWalk.i64_in _ ⟨by omega,by omega⟩];omega
    obtain ⟨i1,i2⟩:=ih gx.2 (by omega) h3 (zBL M' b2);exact ⟨fun hh=>((i1 (by rw[cost]at hh;omega)).lead w').more (by omega),fun hh=>((i2 (by rw[cost]at hh;omega)).lead w').more (by omega)⟩
end Cn
end Go.Proofs.YtgahgkddaljmkaaGreatDoor
