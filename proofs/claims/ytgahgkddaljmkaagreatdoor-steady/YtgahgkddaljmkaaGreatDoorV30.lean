/- Cmp49 .. Scope6 -/
import Derived.Test.YtgahgkddaljmkaaGreatDoorV29
import Derived.Test.YtgahgkddaljmkaaGreatDoorV21
import Derived.Test.YtgahgkddaljmkaaGreatDoorV18
import Derived.Test.YtgahgkddaljmkaaGreatDoorV14
import Derived.Test.YtgahgkddaljmkaaGreatDoorV1
set_option maxRecDepth 100000
set_option maxHeartbeats 4000000
namespace Go.Proofs.YtgahgkddaljmkaaGreatDoor
open Go.RowKit
namespace Cp
theorem zk6{M N:Nat}(fns:List Nm)(hM:M<=5000):∀ (l:List Th.zbq) (i:Nat) (bl:List (Nat × List Ins)),(∀ f∈l,Dp N f.e/\wt N f.e<=M/\f.params.length<=5000)->i+l.length<=bl.length->(∀ (j:Nat) (b:Nat × List Ins),bl[j]?=some b->(j<i\/i+l.length<=j)->zrL b) ->
  (∀ b∈lines (free N) fns N i l bl,zrL b)/\i+l.length<=(lines (free N) fns N i l bl).length
 |[],i,bl,_,hl,h=>by
  rw[lines];refine ⟨fun b hb=>?_,hl⟩;obtain ⟨j,hj⟩:=List.mem_iff_getElem?.1 hb;exact h j b hj (by simp;omega)
 |f::l,i,bl,hf,hl,h=>by
  obtain ⟨f1,f2,f3⟩:=hf f (by simp);simp only[zx3]at hl h;rw[lines];obtain ⟨sl,hsl⟩:∃ sl:List Nm,sl=(Th.texts f.params).reverse:=⟨_,rfl⟩;have hsll:sl.length<=5000:=by rw[hsl];simp[Th.texts];omega
  rw[<-hsl];obtain ⟨⟨⟨more,e1,g1⟩,c,d1,o1⟩,a2⟩:=zbx (M:=M) N fns hM N f.e 0 ⟨bl,sl,[]⟩ f1 f1 f2;have a3:=(zaH M N fns N f.e 0 ⟨bl,sl,[]⟩ f1 f2).1;have a4:=zlU hM f2;generalize work (free N) fns N f.e 0 ⟨bl,sl,[]⟩=q at e1 d1 a2 a3 ⊢;simp only[zyi,zyC,zx7]at e1 d1 a2 a3;have hql:bl.length<=q.blocks.length:=by rw[e1];simp
  have hgood:∀ (j:Nat) (b:Nat × List Ins),(q.blocks.set i (sl.length,q.code))[j]?=some b->(j<i+1\/i+1+l.length<=j)->zrL b:=by
   intro j b hj hor;rw[zxR]at hj;by_cases hij:i=j
   ·rw[if_pos hij]at hj;subst hij;rw[if_pos (by omega)]at hj;cases hj;refine ⟨by simp only;omega,fun e0=>?_,by simp only;omega,fun x hx=>?_⟩
    ·simp only at e0;rw[e0]at a2;simp at a2
    ·simp only at hx;rw[d1]at hx;exact o1 x hx
   ·rw[if_neg hij,e1,zyd]at hj;by_cases hjl:j<bl.length
    ·rw[if_pos hjl]at hj;exact h j b hj (by omega)
    ·rw[if_neg hjl]at hj;exact g1 b (zxX hj)
  obtain ⟨i1,i2⟩:=zk6 fns hM l (i+1) (q.blocks.set i (sl.length,q.code)) (fun x hx=>hf x (by simp[hx])) (by rw[zx2];omega) hgood;exact ⟨i1,by simp only[zx3];omega⟩
theorem zod{M N:Nat}(hM:M<=5000){l:List Th.zbq}(hf:∀ f∈l,Dp N f.e/\wt N f.e<=M/\f.params.length<=5000):(∀ b∈program N l,zrL b)/\l.length<=(program N l).length:=by
 obtain ⟨h1,h2⟩:=zk6 (l.map fun f=>f.name.s) hM l 0 (List.replicate l.length (0,[])) hf (by simp) (fun j b hj hor=>by
  have:=(zxH.1 hj).1;simp at this;omega)
 exact ⟨h1,by unfold program;omega⟩
end Cp
variable {w:World}
variable {n:Nat}
theorem zhy{sv:Value}{size:Nat}{e:TypeId}{xs:List Value}(h:w.ownsRow 0 e size sv n xs)(hn:0<n):∃ g cap,sv=.slice (some ⟨g,0,none⟩) n cap/\sv.ownBlock=some g/\g<w.heap.size/\∀ j v,xs[j]?=some v->w.cell? ⟨g,j,none⟩=some v:=by
 have h0:=h;obtain ⟨h1,h2⟩:=h;rcases h2 with ⟨rfl,rfl⟩|⟨g,cap,cur,rfl,hg,hb,r1,r2,r3,r4⟩
 ·omega
 ·refine ⟨g,cap,rfl,rfl,(zxU.1 hb).1,fun j v hj=>?_⟩;have hjl:=(zxH.1 hj).1;rw[h0.cellAt j (by omega)];exact hj
theorem zh1:∀ (l:List (Nat × List Ins)) (vs:List Value) (i:Nat) (b:Nat × List Ins) (v:Value),l[i]?=some b->vs[i]?=some v->(zay l vs)[i*2]?=some (.int .i64 b.1)/\(zay l vs)[i*2+1]?=some v
 |[],_,_,_,_,h,_=>by simp at h
 |_::_,[],_,_,_,_,h=>by simp at h
 |x::l,y::vs,0,b,v,h1,h2=>by simp at h1 h2;subst h1 h2;simp[zay]
 |x::l,y::vs,i+1,b,v,h1,h2=>by
  have:=zh1 l vs i b v (by simpa using h1) (by simpa using h2);simp only[zay];rw[show (i+1)*2=i*2+1+1 by omega];simp only[zx5,zx7,zyP];exact this
theorem zgG:∀ (l:List (Nat × Nat × Nat)) (i t c b:Nat),l[i]?=some (t,c,b)->(zbp l)[i*3]?=some (.int .i64 t)/\(zbp l)[i*3+1]?=some (.int .i64 c)/\(zbp l)[i*3+2]?=some (.int .i64 b)
 |[],_,_,_,_,h=>by simp at h
 |x::l,0,t,c,b,h=>by simp at h;subst h;simp[zbp]
 |x::l,i+1,t,c,b,h=>by
  have:=zgG l i t c b (by simpa using h);unfold zbp at this ⊢;rw[List.flatMap_cons,show (i+1)*3=i*3+1+1+1 by omega];simp only[zx5,zx7,zyP];exact this
theorem zws{Z:Nat->Prop}{v:Value}{i:Ins}{mb wb:Nat}(hm:w.heap.size<=mb)(hw:w.heap.size<=wb)(h:zoM Z w v i)(ho:Cp.zrc i):IAt w mb wb (.slice none 0 0) v i:=by
 cases i with
 |choose zao=>
  obtain ⟨av,h1,h2,h3⟩:=h;have hp:0<zao.length:=zyz.2 h3;obtain ⟨g,cap,rfl,_,hgl,hc⟩:=zhy h2.1 hp;have ho':zao.length<=5000:=ho;refine ⟨_,h1,g,cap,rfl,hgl,?_,by omega,fun j t c b hj=>?_⟩
  ·rintro (e|e|e)
   ·omega
   ·omega
   ·cases e
  ·obtain ⟨a1,a2,a3⟩:=zgG zao j t c b hj;exact ⟨hc _ _ a1,hc _ _ a2,hc _ _ a3⟩
 |_=>exact h
theorem zsE{Z:Nat->Prop}{cb:Nat}{rv:Value}{fns:List Cp.Nm}{cd:List (Nat × List Ins)}(h:CS Z w cb rv fns cd)(hg:∀ b∈cd,Cp.zrL b)(hp:0<cd.length):zqw w rv cd:=by
 intro mb wb hm hw;obtain ⟨cvs,h1,h2,h3⟩:=h.zkF;obtain ⟨g,cap,rfl,_,hgl,hc⟩:=zhy h2 hp;refine ⟨g,cap,rfl,hgl,?_,fun i n is hi=>?_⟩
 ·rintro (e|e|e)
  ·omega
  ·omega
  ·cases e
 ·obtain ⟨b1,b2,b3,b4⟩:=hg _ (zxX hi);simp only at b1 b2 b3 b4;have hil:=(zxH.1 hi).1;obtain ⟨cv,hcv⟩:∃ cv,cvs[i]?=some cv:=⟨_,zxI (by omega)⟩;obtain ⟨e1,e2⟩:=zh1 cd cvs i (n,is) cv hi hcv;obtain ⟨vs,r1,r2,r3⟩:=h3 i (n,is) cv hi hcv;simp only at r1 r2 r3;obtain ⟨g2,cap2,rfl,_,hg2,hc2⟩:=zhy r1.1 (zyz.2 b2);refine ⟨by omega,b3,hc _ _ e1,g2,cap2,vs,hc _ _ e2,hg2,?_,r2,fun j x hj=>?_⟩
  ·rintro (e|e|e)
   ·omega
   ·omega
   ·cases e
  ·have hjl:=(zxH.1 hj).1;obtain ⟨v,hv⟩:∃ v,vs[j]?=some v:=⟨_,zxI (by omega)⟩;exact ⟨v,hv,hc2 _ _ hv,zws hm hw (r3 j v x hv hj) (b4 x (zxX hj))⟩
end Go.Proofs.YtgahgkddaljmkaaGreatDoor
namespace Go.Proofs.YtgahgkddaljmkaaGreatDoor
namespace Th
def WB (b:Nat) (e:Ex):Prop:=∃ m,Cp.Dp m e/\Cp.wt m e<=b
def WBs (b:Nat) (l:List Ex):Prop:=∃ m,(∀ p∈l,Cp.Dp m p)/\(l.map (Cp.wt m)).sum<=b
variable {b m k:Nat}
theorem WBs.up{l:List Ex}(h1:∀ p∈l,Cp.Dp m p)(h2:(l.map (Cp.wt m)).sum<=b)(hk:m<=k):(∀ p∈l,Cp.Dp k p)/\(l.map (Cp.wt k)).sum<=b:=
 ⟨fun p hp=>(h1 p hp).le hk,by rw[zza (fun p hp=>Cp.zkD (h1 p hp) hk)];exact h2⟩
theorem WBs.nil:WBs 0 []:=⟨0,by simp,by simp⟩
variable {a:Nat}
variable {e:Ex}
theorem WBs.snoc{l:List Ex}(h:WBs a l)(k:WB b e):WBs (a+b) (l++[e]):=by
 obtain ⟨m,h1,h2⟩:=h;obtain ⟨n,k1,k2⟩:=k;obtain ⟨g1,g2⟩:=WBs.up h1 h2 (zyV m n);have k3:=Cp.zkD k1 (zy7 n m);refine ⟨m+n,fun p hp=>?_,?_⟩
 ·rcases zyc.mp hp with hp|hp
  ·exact g1 p hp
  ·rw[zya.mp hp];exact k1.le (by omega)
 ·rw[zy1,zy0];simp;omega
theorem WB.of(hw:Cp.Well e)(hk:∀ k∈e.kids,Cp.Dp m k)(hb:1+e.names.length+(e.zao.map fun a=>1+a.2.length).sum+(e.kids.map (Cp.wt m)).sum<=b):WB b e:=⟨m+1,⟨hw,hk⟩,by rw[Cp.wt];exact hb⟩
variable {n:Nat}
theorem zxE(h:n<=999999999):WB 1 (mkNum n):=WB.of (m:=0) ⟨by simp[mkNum],by simp[mkNum],h,by simp[mkNum],by simp[mkNum],by simp[mkNum],by simp[mkNum],by simp[mkNum],by simp[mkNum],by simp[mkNum],by simp[mkNum],by simp[mkNum],by simp[mkNum]⟩ (by simp[mkNum]) (by simp[mkNum])
theorem zwe{t:Tok}(h:t.s≠[]):WB 1 (zcq t):=WB.of (m:=0) ⟨by simp[zcq],by simp[zcq],by simp[zcq],by simp[zcq],by simp[zcq],by simp[zcq],by simp[zcq],fun _=>h,by simp[zcq],by simp[zcq],by simp[zcq],by simp[zcq],by simp[zcq]⟩ (by simp[zcq]) (by simp[zcq])
theorem zwu{t:Nat}(h1:t<=99)(h2:a<=9):WB 1 (zcU t a):=WB.of (m:=0) ⟨by simp[zcU],by simp[zcU],by simp[zcU],h1,h2,by simp[zcU],by simp[zcU],by simp[zcU],by simp[zcU],by simp[zcU],by simp[zcU],by simp[zcU],by simp[zcU]⟩ (by simp[zcU]) (by simp[zcU])
theorem zxt{l:List Tok}(hl:l≠[])(hs:∀ t∈l,t.s≠[])(h:WB b e):WB (b+l.length+1) (mkFun l e):=by
 obtain ⟨m,h1,h2⟩:=h;exact WB.of (m:=m) ⟨by simp[mkFun],by simp[mkFun],by simp[mkFun],by simp[mkFun],by simp[mkFun],hs,by simp[mkFun],by simp[mkFun],fun _=>⟨hl,e,rfl⟩,by simp[mkFun],by simp[mkFun],by simp[mkFun],by simp[mkFun]⟩ (by simp[mkFun,h1]) (by simp[mkFun];omega)
variable {f:Ex}
theorem zv0(h:WB a e)(k:WB b f):∃ m,Cp.Dp m e/\Cp.Dp m f/\Cp.wt m e<=a/\Cp.wt m f<=b:=by
 obtain ⟨m,h1,h2⟩:=h;obtain ⟨n,k1,k2⟩:=k;exact ⟨m+n,h1.le (by omega),k1.le (by omega),by rw[Cp.zkD h1 (by omega)];exact h2,by rw[Cp.zkD k1 (by omega)];exact k2⟩
theorem zwI(h:WB a e)(k:WB b f):WB (a+b+1) (zcd e f):=by
 obtain ⟨m,h1,h2,h3,h4⟩:=zv0 h k;exact WB.of (m:=m) ⟨by simp[zcd],by simp[zcd],by simp[zcd],by simp[zcd],by simp[zcd],by simp[zcd],by simp[zcd],by simp[zcd],by simp[zcd],fun _=>⟨e,f,rfl⟩,by simp[zcd],by simp[zcd],by simp[zcd]⟩ (by simp[zcd,h1,h2]) (by simp[zcd];omega)
theorem zxj{t:Tok}(ht:t.s∈six)(h:WB a e)(k:WB b f):WB (a+b+1) (zjk t e f):=by
 obtain ⟨m,h1,h2,h3,h4⟩:=zv0 h k;exact WB.of (m:=m) ⟨by simp[zjk],by simp[zjk],by simp[zjk],by simp[zjk],by simp[zjk],by simp[zjk],by simp[zjk],by simp[zjk],by simp[zjk],fun _=>⟨e,f,rfl⟩,fun _=>ht,by simp[zjk],by simp[zjk]⟩ (by simp[zjk,h1,h2]) (by simp[zjk];omega)
theorem zxC{r:Bool}{l:List Tok}{parts:List Ex}(hl:l≠[])(hs:∀ t∈l,t.s≠[])(hn:parts.length=l.length)(h:WBs a parts)(k:WB b e):WB (a+b+l.length+1) (mkLet r l parts e):=by
 obtain ⟨m,h1,h2⟩:=h;obtain ⟨n,k1,k2⟩:=k;obtain ⟨g1,g2⟩:=WBs.up h1 h2 (zyV m n);have k3:=Cp.zkD k1 (zy7 n m);have hk:(mkLet r l parts e).kind=7\/(mkLet r l parts e).kind=8:=by cases r <;> simp[mkLet]
 refine WB.of (m:=m+n) ⟨by omega,by omega,by simp[mkLet],by simp[mkLet],by simp[mkLet],hs,by simp[mkLet],fun h=>by omega,fun h=>by omega,fun h=>by omega,fun h=>by omega,fun _=>⟨hl,e,parts,rfl,hn⟩,fun h=>by omega⟩ (fun p hp=>?_) ?_
 ·rcases zyk.1 hp with rfl|hp
  ·exact k1.le (by omega)
  ·exact g1 p hp
 ·simp only[mkLet,List.map_nil,List.sum_nil,zx6,zx9];omega
theorem zw4{l:List (Nat × List Tok)}{bodies:List Ex}(hl:l≠[])(hs:∀ x∈l,x.1<=99/\∀ t∈x.2,t.s≠[])(hn:bodies.length=l.length)(h:WBs a bodies)(k:WB b e):WB (a+b+(l.map fun x=>1+x.2.length).sum+1) (mkCase e l bodies):=by
 obtain ⟨m,h1,h2⟩:=h;obtain ⟨n,k1,k2⟩:=k;obtain ⟨g1,g2⟩:=WBs.up h1 h2 (zyV m n);have k3:=Cp.zkD k1 (zy7 n m);refine WB.of (m:=m+n) ⟨by simp[mkCase],by simp[mkCase],by simp[mkCase],by simp[mkCase],by simp[mkCase],by simp[mkCase],hs,by simp[mkCase],by simp[mkCase],by simp[mkCase],by simp[mkCase],by simp[mkCase],fun _=>⟨hl,e,bodies,rfl,hn⟩⟩ (fun p hp=>?_) ?_
 ·rcases zyk.1 hp with rfl|hp
  ·exact k1.le (by omega)
  ·exact g1 p hp
 ·simp only[mkCase,zyi,zx6,zx9];omega
def TK2 (st:St):Prop:=∀ t∈st.rest,(t.k=3->val t.s<=999999999)/\(t.k=2->t.s≠[])
theorem TK2.adv{st:St}(h:TK2 st):TK2 st.adv:=fun t ht=>h t (List.mem_of_mem_tail ht)
theorem TK2.fail{st:St}(h:TK2 st):TK2 st.fail:=by
 unfold St.fail;split
 ·intro t ht;simp at ht
 ·exact h
theorem TK2.want{st:St}(s:List UInt8)(h:TK2 st):TK2 (want s st):=by
 unfold Th.want;split
 ·exact h.adv
 ·exact h.fail
theorem TK2.zaK{st:St}(h:TK2 st):TK2 (zaK st).2:=by
 unfold Th.zaK;split
 ·exact h.adv
 ·exact h.fail
theorem TK2.zax{st:St}(h:TK2 st):TK2 (zax st).2:=by
 unfold Th.zax;split
 ·exact fun t ht=>h t ((List.dropWhile_sublist _).subset ht)
 ·exact h
theorem TK2.zaA{st:St}(a b:Nat)(h:TK2 st):TK2 (zaA a b st).2:=by
 unfold Th.zaA;split
 ·exact h.adv
 ·exact h.fail
variable {st:St}
theorem zf9{s:List UInt8}(h:st.is s=true)(hs:s≠[]):st.rest.length=st.adv.rest.length+1:=by
 unfold St.is at h;simp only[zyx,beq_iff_eq]at h;cases hr:st.rest with
 |nil=>exact absurd (by rw[<-h.2];simp[St.hd,hr,zm3]) hs
 |cons t r=>simp[St.adv,hr]
theorem zft(h:st.kind k=true)(hk:k≠0):st.rest.length=st.adv.rest.length+1/\st.hd∈st.rest/\st.hd.k=k:=by
 unfold St.kind at h;simp only[zyx,beq_iff_eq]at h;cases hr:st.rest with
 |nil=>exact absurd (by rw[<-h.2];simp[St.hd,hr,zm3]) hk
 |cons t r=>exact ⟨by simp[St.adv,hr],by simp[St.hd,hr],h.2⟩
theorem zb2{s:List UInt8}(h:(want s st).bad=none)(hs:s≠[]):st.rest.length=(want s st).rest.length+1:=by
 unfold want at h ⊢;split at h
 ·next hi=>rw[if_pos hi];exact zf9 hi hs
 ·exact (zhA h).elim
theorem zmY(h:(zaK st).2.bad=none)(ht:TK2 st):st.rest.length=(zaK st).2.rest.length+1/\(zaK st).1.s≠[]:=by
 unfold zaK at h ⊢;split at h
 ·next hi=>
  rw[if_pos hi];obtain ⟨a,b,c⟩:=zft hi (by decide);exact ⟨a,(ht _ b).2 c⟩
 ·exact (zhA h).elim
theorem zdd(h:(zax st).2.bad=none)(ht:TK2 st):st.rest.length=(zax st).2.rest.length+(zax st).1.length/\∀ t∈(zax st).1,t.s≠[]:=by
 have hb:=zcO _ h;unfold zax;rw[if_pos (by rw[hb];rfl)];refine ⟨?_,fun t hm=>?_⟩
 ·have:=congrArg List.length (List.takeWhile_append_dropWhile (p:=fun t:Tok=>t.k == 2) (l:=st.rest));rw[zxP]at this;simp only;omega
 ·simp only at hm;have h1:=(zzb _).subset hm;have h2:(t.k == 2)=true:=List.all_eq_true.1 (List.all_takeWhile (p:=fun t:Tok=>t.k == 2) (l:=st.rest)) t hm;simp only[beq_iff_eq]at h2;exact (ht t h1).2 h2
theorem zhz(h:(zaA a b st).2.bad=none):st.rest.length=(zaA a b st).2.rest.length+1:=by
 unfold zaA at h ⊢;split at h
 ·next hi=>
  rw[if_pos hi];simp only[zyx]at hi;exact (zft hi.1.1 (by decide)).1
 ·exact (zhA h).elim
def zkM (st:St) (q:Ex × St):Prop:=TK2 q.2/\(q.2.bad=none->∃ b,b+1+2*q.2.rest.length<=2*st.rest.length/\WB b q.1)
def zoW (ex:Rd):Prop:=∀ c st q,ex c st=some q->TK2 st->zkM st q
theorem zpy(h:TK2 st):TK2 (zdf st).2/\((zdf st).2.bad=none->(zdf st).2.rest.length<=st.rest.length/\WB 1 (zdf st).1):=by
 refine ⟨TK2.want _ (TK2.zaA _ _ (TK2.want _ (TK2.zaA _ _ h))),fun hb=>?_⟩;have h1:=zb2 (s:=[125]) hb (by decide);have b1:=zaC _ _ hb;have h2:=zhz b1;have b2:=zdQ _ _ _ b1;have h3:=zb2 b2 (by decide);have h4:=zhz (zaC _ _ b2);refine ⟨?_,zwu (zc8 _ _ _) (zc8 _ _ _)⟩;unfold zdf at *;simp only at *;omega
variable {ex:Rd}
variable {q:Ex × St}
theorem zlo(hx:zoW ex)(h:zeL ex st=some q)(ht:TK2 st):zkM st q:=by
 unfold zeL at h;split at h
 ·next hi=>
  cases h;obtain ⟨a,b,c⟩:=zft hi (by decide);exact ⟨ht.adv,fun _=>⟨1,by simp only;omega,zwe ((ht _ b).2 c)⟩⟩
 ·split at h
  ·next hi=>
   cases h;obtain ⟨a,b,c⟩:=zft hi (by decide);exact ⟨ht.adv,fun _=>⟨1,by simp only;omega,zxE ((ht _ b).1 c)⟩⟩
  ·split at h
   ·next hi=>
    cases h;have a:=zf9 hi (by decide);obtain ⟨m1,m2⟩:=zpy ht.adv;refine ⟨m1,fun hb=>?_⟩;obtain ⟨n1,n2⟩:=m2 hb;exact ⟨1,by omega,n2⟩
   ·split at h
    ·next hi=>
     simp only[zxM,zxL]at h;obtain ⟨r,h1,rfl⟩:=h;have a:=zf9 hi (by decide);have m:=hx _ _ _ h1 ht.adv;refine ⟨m.1.want _,fun hb=>?_⟩;have w:=zb2 (s:=[41]) hb (by decide);obtain ⟨b,hb1,hb2⟩:=m.2 (zaC _ _ hb);exact ⟨b,by simp only at *;omega,hb2⟩
    ·cases h;exact ⟨ht.fail,fun hb=>(zhA hb).elim⟩
theorem ziR{ex:Rd}(hx:zoW ex)(hk:zbC ex):∀ (k:Nat) (e:Ex) (st s0:St) (q:Ex × St),zcT ex k e st=some q->TK2 st->(st.bad=none->∃ b,b+1+2*st.rest.length<=2*s0.rest.length/\WB b e)->zkM s0 q
 |0,_,_,_,_,h,_,_=>by simp[zcT]at h
 |k+1,e,st,s0,q,h,ht,he=>by
  rw[zcT]at h;split at h
  ·simp only[zxM]at h;obtain ⟨r,h1,h2⟩:=h;have m:=zlo hx h1 ht;refine ziR hx hk k _ _ s0 _ h2 m.1 (fun hb=>?_);obtain ⟨a,a1,a2⟩:=he (zfo hk h1 hb);obtain ⟨b,b1,b2⟩:=m.2 hb;exact ⟨a+b+1,by omega,zwI a2 b2⟩
  ·cases h;exact ⟨ht,he⟩
theorem zly(hx:zoW ex)(hk:zbC ex)(h:zhH ex k st=some q)(ht:TK2 st):zkM st q:=by
 unfold zhH at h;simp only[zxM]at h;obtain ⟨r,h1,h2⟩:=h;have m:=zlo hx h1 ht;exact ziR hx hk k _ _ _ _ h2 m.1 m.2
theorem zjw{sub:St->Option (Ex × St)}(hs:∀ st q,sub st=some q->TK2 st->zkM st q)(hk:∀ st q,sub st=some q->q.2.bad=none->st.bad=none){a b:List UInt8}(ha:a∈six)(hb:b∈six):
  ∀ (k:Nat) (e:Ex) (st s0:St) (q:Ex × St),zkj sub a b k e st=some q->TK2 st->(st.bad=none->∃ b,b+1+2*st.rest.length<=2*s0.rest.length/\WB b e)->zkM s0 q
 |0,_,_,_,_,h,_,_=>by simp[zkj]at h
 |k+1,e,st,s0,q,h,ht,he=>by
  rw[zkj]at h;split at h
  ·next hi=>
   simp only[zxM]at h;obtain ⟨r,h1,h2⟩:=h;have m:=hs _ _ h1 ht.adv;simp only[zzu]at hi;have hne:∀ x∈six,x≠[]:=by decide
   have hlen:st.rest.length=st.adv.rest.length+1:=by
    rcases hi with hi|hi
    ·exact zf9 hi (hne _ ha)
    ·exact zf9 hi (hne _ hb)
   refine zjw hs hk ha hb k _ _ s0 _ h2 m.1 (fun hbad=>?_);obtain ⟨c,c1,c2⟩:=he (zby _ (hk _ _ h1 hbad));obtain ⟨d,d1,d2⟩:=m.2 hbad;refine ⟨c+d+1,by omega,zxj ?_ c2 d2⟩;rcases hi with hi|hi
   ·rw[ze7 hi];exact ha
   ·rw[ze7 hi];exact hb
  ·cases h;exact ⟨ht,he⟩
theorem zg9(hx:zoW ex)(hk:zbC ex)(h:zcD ex k st=some q)(ht:TK2 st):zkM st q:=by
 unfold zcD at h;simp only[zxM]at h;obtain ⟨r,h1,h2⟩:=h;have m:=zly hx hk h1 ht;exact zjw (fun _ _ a b=>zly hx hk a b) (fun _ _ a=>zfx hk _ _ _ a) (by decide) (by decide) k _ _ _ _ h2 m.1 m.2
theorem znm(hx:zoW ex)(hk:zbC ex)(h:zuk ex k st=some q)(ht:TK2 st):zkM st q:=by
 unfold zuk at h;simp only[zxM]at h;obtain ⟨r,h1,h2⟩:=h;have m:=zg9 hx hk h1 ht;exact zjw (fun _ _ a b=>zg9 hx hk a b) (fun _ _ a=>zcV hk _ _ _ a) (by decide) (by decide) k _ _ _ _ h2 m.1 m.2
theorem zrH(hx:zoW ex)(hk:zbC ex)(h:zjg ex k st=some q)(ht:TK2 st):zkM st q:=by
 unfold zjg at h;simp only[zxM]at h;obtain ⟨r,h1,h2⟩:=h;have m:=znm hx hk h1 ht;split at h2
 ·next hi=>
  simp only[zxM,zxL]at h2;obtain ⟨p,h3,rfl⟩:=h2;have m2:=znm hx hk h3 m.1.adv;simp only[zzu]at hi;have hlen:r.2.rest.length=r.2.adv.rest.length+1:=by
   rcases hi with hi|hi
   ·exact zf9 hi (by decide)
   ·exact zf9 hi (by decide)
  refine ⟨m2.1,fun hb=>?_⟩;obtain ⟨c,c1,c2⟩:=m.2 (zby _ (ze1 hk _ _ _ h3 hb));obtain ⟨d,d1,d2⟩:=m2.2 hb;refine ⟨c+d+1,by simp only at *;omega,zxj ?_ c2 d2⟩;rcases hi with hi|hi
  ·rw[ze7 hi];decide
  ·rw[ze7 hi];decide
 ·cases h2;exact m
theorem zju{ex:Rd}(hx:zoW ex)(hk:zbC ex):∀ (k:Nat) (l:List Tok) (es:List Ex) (st s0:St) (q:List Tok × List Ex × St),zcs ex k l es st=some q->TK2 st->es.length=l.length->(st.bad=none->(∀ t∈l,t.s≠[])/\∃ b,b+l.length+2*st.rest.length<=2*s0.rest.length/\WBs b es) ->
  TK2 q.2.2/\q.1≠[]/\q.2.1.length=q.1.length/\(q.2.2.bad=none->(∀ t∈q.1,t.s≠[])/\∃ b,b+q.1.length+2*q.2.2.rest.length<=2*s0.rest.length/\WBs b q.2.1)
 |0,_,_,_,_,_,h,_,_,_=>by simp[zcs]at h
 |k+1,l,es,st,s0,q,h,ht,hl,he=>by
  rw[zcs]at h;simp only[zxM]at h;obtain ⟨r,h1,h2⟩:=h;have m:=hx _ _ _ h1 (ht.zaK.want _);have hs:r.2.bad=none->(∀ t∈l++[(zaK st).1],t.s≠[])/\∃ b,b+(l++[(zaK st).1]).length+2*r.2.rest.length<=2*s0.rest.length/\WBs b (es++[r.1]):=fun hb=>by
   have g1:=hk _ _ _ h1 hb;have g2:=zaC _ _ g1;have g3:=zc7 _ g2;have l1:=zb2 g1 (by decide);obtain ⟨l2,l3⟩:=zmY g2 ht;obtain ⟨e1,b,e2,e3⟩:=he g3;obtain ⟨c,c1,c2⟩:=m.2 hb;refine ⟨fun t hm=>?_,b+c,by simp;omega,e3.snoc c2⟩;rcases zyc.mp hm with hm|hm
   ·exact e1 t hm
   ·rw[zya.mp hm];exact l3
  have hl2:(es++[r.1]).length=(l++[(zaK st).1]).length:=by simp[hl]
  split at h2
  ·next hi=>
   have a:=zf9 hi (by decide);refine zju hx hk k _ _ _ s0 _ h2 m.1.adv hl2 (fun hb=>?_);obtain ⟨e1,b,e2,e3⟩:=hs (zby _ hb);exact ⟨e1,b,by omega,e3⟩
  ·cases h2;exact ⟨m.1,by simp,hl2,hs⟩
variable {c:Bool}
theorem ztS(hx:zoW ex)(hk:zbC ex)(h:zsk ex k c st=some q)(ht:TK2 st):TK2 q.2/\(q.2.bad=none->∃ b,b+2*q.2.rest.length<=2*st.rest.length/\WB b q.1):=by
 unfold zsk at h;simp only[zxM,zxL]at h;obtain ⟨r,h1,p,h2,rfl⟩:=h;have h0:TK2 (if st.is zoK then st.adv else st):=by
  split
  ·exact ht.adv
  ·exact ht
 have hl0:(if st.is zoK then st.adv else st).rest.length<=st.rest.length:=by
  split
  ·simp[St.adv]
  ·exact zxJ _
 obtain ⟨a1,a2,a3,a4⟩:=zju hx hk k _ _ _ st _ h1 h0 rfl (fun _=>⟨by simp,0,by simpa using zyl 2 hl0,WBs.nil⟩);have m:=hx _ _ _ h2 (a1.want _);refine ⟨m.1,fun hb=>?_⟩;have g1:=hk _ _ _ h2 hb;have l1:=zb2 g1 (by decide);obtain ⟨e1,b,e2,e3⟩:=a4 (zaC _ _ g1);obtain ⟨d,d1,d2⟩:=m.2 hb;refine ⟨b+d+r.1.length+1,by simp only at *;omega,zxC a2 e1 a3 e3 d2⟩
theorem zsp(hx:zoW ex)(hk:zbC ex){q:(Nat × List Tok) × Ex × St}(h:ztY ex c st=some q)(ht:TK2 st):q.1.1<=99/\TK2 q.2.2/\(q.2.2.bad=none->(∀ t∈q.1.2,t.s≠[])/\∃ b,b+1+q.1.2.length+2*q.2.2.rest.length<=2*st.rest.length/\WB b q.2.1):=by
 unfold ztY at h;simp only[zxM,zxL]at h;obtain ⟨r,h1,rfl⟩:=h;have t1:=TK2.want [62] (TK2.zaA 1 99 (ht.want [60]));have m:=hx _ _ _ h1 (TK2.want _ (TK2.zax t1));refine ⟨zc8 _ _ _,m.1,fun hb=>?_⟩;have g1:=hk _ _ _ h1 hb;have l1:=zb2 g1 (by decide);have g2:=zaC _ _ g1;obtain ⟨l2,l3⟩:=zdd g2 t1;have g3:=zcO _ g2;have l4:=zb2 g3 (by decide);have g4:=zaC _ _ g3;have l5:=zhz g4;have l6:=zb2 (zdQ _ _ _ g4) (by decide);obtain ⟨d,d1,d2⟩:=m.2 hb;exact ⟨l3,d,by simp only at *;omega,d2⟩
theorem zlf{ex:Rd}(hx:zoW ex)(hk:zbC ex)(c:Bool):∀ (k:Nat) (l:List (Nat × List Tok)) (es:List Ex) (st s0:St) (q:List (Nat × List Tok) × List Ex × St),zeA ex c k l es st=some q->TK2 st->es.length=l.length ->
  (st.bad=none->(∀ x∈l,x.1<=99/\∀ t∈x.2,t.s≠[])/\∃ b,b+(l.map fun x=>1+x.2.length).sum+2*st.rest.length<=2*s0.rest.length/\WBs b es) ->
  TK2 q.2.2/\q.1≠[]/\q.2.1.length=q.1.length/\(q.2.2.bad=none->(∀ x∈q.1,x.1<=99/\∀ t∈x.2,t.s≠[])/\∃ b,b+(q.1.map fun x=>1+x.2.length).sum+2*q.2.2.rest.length<=2*s0.rest.length/\WBs b q.2.1)
 |0,_,_,_,_,_,h,_,_,_=>by simp[zeA]at h
 |k+1,l,es,st,s0,q,h,ht,hl,he=>by
  rw[zeA]at h;simp only[zxM]at h;obtain ⟨r,h1,h2⟩:=h;obtain ⟨m0,m1,m2⟩:=zsp hx hk h1 ht;have hs:r.2.2.bad=none->(∀ x∈l++[r.1],x.1<=99/\∀ t∈x.2,t.s≠[])/\∃ b,b+((l++[r.1]).map fun x=>1+x.2.length).sum+2*r.2.2.rest.length<=2*s0.rest.length/\WBs b (es++[r.2.1]):=fun hb=>by
   obtain ⟨e1,b,e2,e3⟩:=he (zfi hk h1 hb);obtain ⟨f1,d,f2,f3⟩:=m2 hb;refine ⟨fun x hm=>?_,b+d,?_,e3.snoc f3⟩
   ·rcases zyc.mp hm with hm|hm
    ·exact e1 x hm
    ·rw[zya.mp hm];exact ⟨m0,f1⟩
   ·rw[zy1,zy0];simp only[zx6,List.map_nil,zx9,List.sum_nil];omega
  have hl2:(es++[r.2.1]).length=(l++[r.1]).length:=by simp[hl]
  split at h2
  ·next hi=>
   unfold za6 at hi;simp only[zyx]at hi;have a:=zf9 hi.1 (by decide);refine zlf hx hk c k _ _ _ s0 _ h2 m1.adv hl2 (fun hb=>?_);obtain ⟨e1,b,e2,e3⟩:=hs (zby _ hb);exact ⟨e1,b,by omega,e3⟩
  ·cases h2;exact ⟨m1,by simp,hl2,hs⟩
theorem zrV(hx:zoW ex)(hk:zbC ex)(h:zjC ex k c st=some q)(ht:TK2 st):TK2 q.2/\(q.2.bad=none->∃ b,b+2*q.2.rest.length<=2*st.rest.length/\WB b q.1):=by
 unfold zjC at h;simp only[zxM,zxL]at h;obtain ⟨r,h1,p,h2,rfl⟩:=h;have m:=hx _ _ _ h1 ht;obtain ⟨a1,a2,a3,a4⟩:=zlf hx hk c k _ _ _ (want sOf r.2) _ h2 (m.1.want _) rfl (fun _=>⟨by simp,0,by simp,WBs.nil⟩);refine ⟨a1,fun hb=>?_⟩;have g1:=zfy hk c k _ _ _ _ h2 hb;have l1:=zb2 g1 (by decide);obtain ⟨e1,b,e2,e3⟩:=a4 hb;obtain ⟨d,d1,d2⟩:=m.2 (zaC _ _ g1);exact ⟨b+d+(p.1.map fun x=>1+x.2.length).sum+1,by simp only at *;omega,zw4 a2 e1 a3 e3 d2⟩
theorem zsz(hx:zoW ex)(hk:zbC ex)(h:zt3 ex c st=some q)(ht:TK2 st):TK2 q.2/\(q.2.bad=none->∃ b,b+2*q.2.rest.length<=2*st.rest.length/\WB b q.1):=by
 unfold zt3 at h;simp only[zxM,zxL]at h;obtain ⟨r,h1,rfl⟩:=h;have m:=hx _ _ _ h1 (TK2.want _ (TK2.zax ht.zaK));refine ⟨m.1,fun hb=>?_⟩;have g1:=hk _ _ _ h1 hb;have l1:=zb2 g1 (by decide);have g2:=zaC _ _ g1;obtain ⟨l2,l3⟩:=zdd g2 ht.zaK;have g3:=zcO _ g2;obtain ⟨l4,l5⟩:=zmY g3 ht;obtain ⟨d,d1,d2⟩:=m.2 hb;refine ⟨d+((zaK st).1::(zax (zaK st).2).1).length+1,by simp only[zx3]at *;omega,zxt (by simp) (fun t hm=>?_) d2⟩;rcases zyk.1 hm with rfl|hm
 ·exact l5
 ·exact l3 t hm
theorem zrI(hx:zoW ex)(hk:zbC ex)(k:Nat):zoW (zgF ex k):=by
 intro c st q h ht;unfold zgF at h;have go:∀ {s:List UInt8},st.is s=true->s≠[]->TK2 q.2/\(q.2.bad=none->∃ b,b+2*q.2.rest.length<=2*st.adv.rest.length/\WB b q.1)->zkM st q:=fun hi hs m=>by
  have a:=zf9 hi hs;refine ⟨m.1,fun hb=>?_⟩;obtain ⟨b,b1,b2⟩:=m.2 hb;exact ⟨b,by omega,b2⟩
 split at h
 ·next hi=>exact go hi (by decide) (ztS hx hk h ht.adv)
 ·split at h
  ·next hi=>exact go hi (by decide) (zrV hx hk h ht.adv)
  ·split at h
   ·next hi=>exact go hi (by decide) (zsz hx hk h ht.adv)
   ·exact zrH hx hk h ht
theorem zlB:∀ n,zoW (zei n)
 |0=>fun _ _ _ h=>by simp[zei]at h
 |n+1=>zrI (zlB n) (zcz n) n
def zv5 (b:Nat) (l:List zbq):Prop:=∃ m,(∀ x∈l,Cp.Dp m x.e/\∀ t∈x.params,t.s≠[])/\(l.map fun x=>Cp.wt m x.e+x.params.length+1).sum<=b
theorem zgg{n:Nat}:∀ (k:Nat) (l:List zbq) (st s0:St) (q:List zbq × St),zcG (zei n) k l st=some q->TK2 st->(st.bad=none->∃ b,b+2*st.rest.length<=2*s0.rest.length/\zv5 b l)->q.2.bad=none->zv5 (2*s0.rest.length) q.1
 |0,_,_,_,_,h,_,_,_=>by simp[zcG]at h
 |k+1,l,st,s0,q,h,ht,hl,hb=>by
  rw[zcG]at h;split at h
  ·simp only[zxM]at h;obtain ⟨r,h1,h2⟩:=h;unfold zmx at h1;simp only[zxM,zxL]at h1;obtain ⟨p,h3,rfl⟩:=h1;have m:=zlB n _ _ _ h3 (TK2.want _ (TK2.zax ht.zaK));refine zgg k _ _ s0 _ h2 (m.1.want _) (fun hb2=>?_) hb;have w1:=zb2 hb2 (by decide);have hp:=zaC _ _ hb2;have g1:=zcz n _ _ _ h3 hp;have l1:=zb2 g1 (by decide);have g2:=zaC _ _ g1;obtain ⟨l2,l3⟩:=zdd g2 ht.zaK;have g3:=zcO _ g2;obtain ⟨l4,l5⟩:=zmY g3 ht;obtain ⟨b,b1,m1,e1,e2⟩:=hl (zc7 _ g3);obtain ⟨d,d1,m2,f1,f2⟩:=m.2 hp;refine ⟨b+(d+(zax (zaK st).2).1.length+1),by simp only at *;omega,m1+m2,fun x hx=>?_,?_⟩
   ·rcases zyc.mp hx with hx|hx
    ·exact ⟨(e1 x hx).1.le (by omega),(e1 x hx).2⟩
    ·rw[zya.mp hx];exact ⟨f1.le (by omega),l3⟩
   ·rw[zy1,zy0];have e3:(l.map fun x=>Cp.wt (m1+m2) x.e+x.params.length+1)=l.map fun x=>Cp.wt m1 x.e+x.params.length+1:=zza (fun x hx=>by rw[Cp.zkD (e1 x hx).1 (by omega)])
    rw[e3];have e4:=Cp.zkD f1 (show m2<=m1+m2 by omega);simp only[zx6,List.map_nil,zx9,List.sum_nil];omega
  ·cases h;obtain ⟨b,b1,m,e1,e2⟩:=hl hb;exact ⟨m,e1,by simp only at *;omega⟩
end Th
end Go.Proofs.YtgahgkddaljmkaaGreatDoor
namespace Go.Proofs.YtgahgkddaljmkaaGreatDoor
open Go.RowKit
namespace Th
def zcx:Nat->Nat->List Tok->Prop
 |lo,hi,[]=>lo<=hi
 |lo,hi,t::r=>lo<=t.at_/\zcx (t.at_+1) hi r
def zbc (P:Ex->Nat->Nat->Prop):Nat->Nat->List Tok->List Ex->Prop
 |lo,hi,[],[]=>lo<=hi
 |lo,hi,t::r,e::es=>lo<=t.at_/\∃ m,P e (t.at_+1) m/\zbc P m hi r es
 |_,_,_,_=>False
def zce (P:Ex->Nat->Nat->Prop):Nat->Nat->List (Nat × List Tok)->List Ex->Prop
 |lo,hi,[],[]=>lo<=hi
 |lo,hi,a::r,e::es=>∃ m1 m2,zcx (lo+1) m1 a.2/\P e m1 m2/\zce P m2 hi r es
 |_,_,_,_=>False
def In:Nat->Ex->Nat->Nat->Prop
 |0,_,_,_=>False
 |n+1,e,lo,hi=>lo<=hi /\
  (((e.kind=1\/e.kind=3))\/(e.kind=2/\lo<=e.tok.at_/\e.tok.at_<hi) \/
   (e.kind=4/\∃ b m,e.kids=[b]/\zcx lo m e.names/\In n b m hi) \/
   ((e.kind=5\/e.kind=6)/\∃ e1 e2 m,e.kids=[e1,e2]/\In n e1 lo m/\In n e2 m hi) \/
   ((e.kind=7\/e.kind=8)/\∃ b parts m,e.kids=b::parts/\zbc (In n) lo m e.names parts/\In n b m hi) \/
   (e.kind=9/\∃ b bodies m,e.kids=b::bodies/\In n b lo m/\zce (In n) m hi e.zao bodies))
theorem zcx.len:∀ {lo hi:Nat} {l:List Tok},zcx lo hi l->lo+l.length<=hi
 |lo,hi,[],h=>h
 |lo,hi,t::r,h=>by
  have:=zcx.len h.2;have:=h.1;simp;omega
theorem In.le:∀ {n:Nat} {e:Ex} {lo hi:Nat},In n e lo hi->lo<=hi
 |0,_,_,_,h=>h.elim
 |_+1,_,_,_,h=>h.1
theorem zbc.len{n:Nat}:∀ {lo hi:Nat} {l:List Tok} {es:List Ex},zbc (In n) lo hi l es->lo+l.length<=hi
 |lo,hi,[],[],h=>h
 |lo,hi,t::r,e::es,h=>by
  obtain ⟨h1,m,h2,h3⟩:=h;have:=zbc.len h3;have:=In.le h2;simp;omega
 |_,_,[],_::_,h=>h.elim
 |_,_,_::_,[],h=>h.elim
theorem zce.len{n:Nat}:∀ {lo hi:Nat} {l:List (Nat × List Tok)} {es:List Ex},zce (In n) lo hi l es->lo+l.length<=hi
 |lo,hi,[],[],h=>h
 |lo,hi,a::r,e::es,h=>by
  obtain ⟨m1,m2,h1,h2,h3⟩:=h;have:=zce.len h3;have:=In.le h2;have:=zcx.len h1;simp;omega
 |_,_,[],_::_,h=>h.elim
 |_,_,_::_,[],h=>h.elim
end Th
def zvY (n:Nat):Prop:=∀ (w:World) (c:Nat) (o:Option Nat) (v:Value) (e:Th.Ex) (av:Value) (around:List (List UInt8)) (S A:Nat->Prop) (m lo hi:Nat),
 Chk w c o->Rep S w m v e->Th.In n e lo hi->Row A w 9 1 av around.length (strCells around)->¬ S c->¬ A c->around.length+(hi-lo)<=1000000 ->
  Calls Tryz.prog 71 #[.pointer (some ⟨c,0,none⟩),v,av] w fun en w'=>en=.returned (.tuple #[])/\Chk w' c (after o (Th.zar n e around))/\w.grownBy w' (some c)
variable {n:Nat}
variable {w:World}
variable {m:Nat}
theorem zk9(hx:zvY n){c:Nat}{o:Option Nat}{nv v av:Value}{l:List Th.Tok}{e:Th.Ex}{around:List (List UInt8)}{S A:Nat->Prop}{lo mid hi:Nat}(hc:Chk w c o)(hn:Row S w 88 2 nv l.length (zaj l))(hr:Rep S w m v e)(h1:Th.zcx lo mid l)(h2:Th.In n e mid hi)(ha:Row A w 9 1 av around.length (strCells around))(hS:¬ S c)(hA:¬ A c)(hb:around.length+(hi-lo)<=1000000):
  Calls Tryz.prog 122 #[.pointer (some ⟨c,0,none⟩),nv,v,av] w fun en w'=>en=.returned (.tuple #[])/\Chk w' c (after o (Th.zjd [] l++Th.zar n e (around++Th.texts l)))/\w.grownBy w' (some c):=by
 have hl1:=h1.len;have hl2:=h2.le;have hcl:=hc.lt;have hll:l.length<=1000000:=by omega
 have hal:around.length<=1000000:=by omega
 have hov:=zah hr;have hsn:=zae hn;have hsa:=zae ha;have hd:=zab (zib hc hn hS hll);have HN:=zab hn;have HR:=zab hr;have HA:=zab ha;have HI:=zab (And.intro h2 (And.intro hS hA));have HL:Hid ((around++Th.texts l).length+(hi-mid)<=1000000):=zab (by simp[Th.texts];omega);have HX:=zab hx;clear hc hn hr h1 h2 ha hS hA hb hx hl1 hl2;obtain ⟨t,x,rfl⟩:=hov;obtain ⟨na,nn,nc,rfl⟩:=hsn;obtain ⟨aa,an,ac,rfl⟩:=hsa;go_enter Tryz.func122,Tryz.ntmps122
 go_wp2_with fail
 refine hd.o.mono ?_;rintro en w1 ⟨rfl,hc1,hg1⟩;have HC:=zab hc1;have HG:=zab hg1;have hn1:=HN.o.gb hg1 (fun j hj=>by cases hj;exact HI.o.2.1);have ht:=zab (zeE hn1 hll);have hsz:=hg1.size;clear hc1 hg1 hn1;go_wp2_with fail
 refine ht.o.mono ?_;rintro en w2 ⟨tv,rfl,htv,hb2⟩;obtain ⟨ta,tn,tc,rfl⟩:=zae (Row.zaE htv);have hsz2:=hb2.size;have HG2:=zab (zad HG.o (zaf (some c) hb2));have HC2:=zab (HC.o.below hb2);have HT:Hid (w2.ownsRow w1.heap.size 9 1 (.slice ta tn tc) (Th.texts l).length (strCells (Th.texts l))):=zab (by simpa [Th.texts] using htv);clear htv hb2 hd ht;go_wp2_with fail
 have hcc:=zfz (HA.o.gb HG2.o (fun j hj=>by cases hj;exact HI.o.2.2)) (Row.zaE HT.o) hal (by simpa [Th.texts] using hll);refine hcc.mono ?_;clear hcc;rintro en w3 ⟨ka,kn,kc,rfl,hK,hb3⟩;have hg3:=zad HG2.o (zaf (some c) hb3);have HX3:=zab (HX.o w3 c _ _ e _ _ S _ m mid hi (HC2.o.below hb3) (HR.o.gb hg3 (fun j hj=>by cases hj;exact HI.o.2.1)) HI.o.1 hK HI.o.2.1 (by show ¬ (w2.heap.size<=c);omega) HL.o);have HG3:=zab hg3;clear hK hb3 hg3;go_wp2_with fail
 refine HX3.o.mono ?_;rintro en w4 ⟨rfl,hc4,hg4⟩;have H4:=zab (And.intro hc4 hg4);clear hc4 hg4;go_wp2_with fail
 go_end0
 exact ⟨rfl,by rw[zaP];exact H4.o.1,zad HG3.o H4.o.2⟩
end Go.Proofs.YtgahgkddaljmkaaGreatDoor
