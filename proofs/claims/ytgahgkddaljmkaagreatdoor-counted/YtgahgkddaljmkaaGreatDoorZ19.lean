/- Run2 .. LawK2 -/
import Derived.Test.YtgahgkddaljmkaaGreatDoorZ18
set_option maxRecDepth 100000
set_option maxHeartbeats 4000000
namespace Go.Proofs.YtgahgkddaljmkaaGreatDoor
open Tryz
open Go.RowKit
namespace Th
theorem zoX{wr tT:Ex->List (List UInt8)->List Nat}{P:Ex->Nat->Nat->Prop}{ar:List (List UInt8)}:∀ (l:List Tok) (es:List Ex) (lo hi:Nat) (seen:List (List UInt8)),zbd P lo hi l es->(∀ e∈es,∀ lo hi ar,P e lo hi->wr e ar=tT e ar)->zbq wr ar seen l es=zbq tT ar seen l es
 |[],[],_,_,_,_,_=>rfl
 |[],_::_,_,_,_,h,_=>h.elim
 |_::_,[],_,_,_,h,_=>h.elim
 |t::l,e::es,lo,hi,seen,⟨_,m,h1,h2⟩,hw=>by
  rw[zbq,zbq,hw e (by simp) _ _ ar h1,zoX l es m hi _ h2 (fun x hx=>hw x (by simp[hx]))]
theorem zqZ{wr tT:Ex->List (List UInt8)->List Nat}{P:Ex->Nat->Nat->Prop}{ar:List (List UInt8)}:∀ (l:List (Nat × List Tok)) (es:List Ex) (lo hi:Nat),zcb P lo hi l es->(∀ e∈es,∀ lo hi ar,P e lo hi->wr e ar=tT e ar)->zeG wr ar l es=zeG tT ar l es
 |[],[],_,_,_,_=>rfl
 |[],_::_,_,_,h,_=>h.elim
 |_::_,[],_,_,h,_=>h.elim
 |t::l,e::es,lo,hi,⟨m1,m2,_,h1,h2⟩,hw=>by
  rw[zeG,zeG,hw e (by simp) _ _ _ h1,zqZ l es m2 hi h2 (fun x hx=>hw x (by simp[hx]))]
theorem zo3:∀ (N K:Nat) (e:Ex) (lo hi:Nat) (ar:List (List UInt8)),In N e lo hi->Cp.Dp K e->zar N e ar=zar K e ar
 |0,_,_,_,_,_,h,_=>h.elim
 |_+1,0,_,_,_,_,_,h=>h.elim
 |N+1,K+1,e,lo,hi,ar,h,hd=>by
  have ih:=fun (x:Ex) (hx:x∈e.kids) (lo hi:Nat) (ar:List (List UInt8)) (eX:In N x lo hi)=>zo3 N K x lo hi ar eX (hd.2 x hx)
  rcases h.2 with hk|⟨hk,_⟩|⟨hk,b,m',k1,_,k2⟩|⟨hk,e1,e2,m',k1,k2,k3⟩|⟨hk,b,parts,m',k1,k2,k3⟩|⟨hk,b,ag,m',k1,k2,k3⟩
  ·rw[znh hk,znh hk]
  ·rw[zuX hk,zuX hk]
  ·rw[zuV hk k1,zuV hk k1,ih b (by simp[k1]) _ _ _ k2]
  ·rw[zq4 hk k1,zq4 hk k1,ih e1 (by simp[k1]) _ _ _ k2,ih e2 (by simp[k1]) _ _ _ k3]
  ·rw[zuW hk k1,zuW hk k1,ih b (by simp[k1]) _ _ _ k3,zoX _ _ _ _ _ k2 (fun x hx lo hi ar hP=>ih x (by simp[k1,hx]) lo hi ar hP)]
  ·rw[zqa hk k1,zqa hk k1,ih b (by simp[k1]) _ _ _ k2,zqZ _ _ _ _ k3 (fun x hx lo hi ar hP=>ih x (by simp[k1,hx]) lo hi ar hP)]
theorem zoZ{N K:Nat}{all:List (List UInt8)}:∀ (l:List zbr) (lo hi:Nat) (seen:List (List UInt8)),zbM N lo hi l->(∀ f∈l,Cp.Dp K f.e)->zbL N all seen l=zbL K all seen l
 |[],_,_,_,_,_=>rfl
 |x::l,lo,hi,seen,⟨_,m1,m2,_,h1,h2⟩,hd=>by
  rw[zbL,zbL,zo3 N K x.e _ _ _ h1 (hd x (by simp)),zoZ l _ _ _ h2 (fun f hf=>hd f (by simp[hf]))]
end Th
def zmt (s:ByteArray):Option (List Th.zbr × Th.St):=Th.zcn (Th.zdJ 1000) 1000 [] ⟨zay s,none⟩
theorem zjz(s:ByteArray)(hs:s.size<=600):∃ q N,zmt s=some q/\Plain s q N:=by
 have hr:Th.zcx 0 (s.size+1) (zay s):=by
  have:=Th.zhu (s.size+1) s.data.toList 0;rw[zAe,zzG]at this;exact this
 have hl:=hr.len;obtain ⟨q,h1,h2⟩:=Th.zjA (Th.zmC 1000) 1000 [] ⟨zay s,none⟩ ⟨zay s,none⟩ ⟨Th.Step.refl _,fun lo M hr _=>⟨0,lo,zyN _,hr⟩⟩ (by show (zay s).length+1<1000;omega) (by show (zay s).length+1+1<1000;omega);by_cases hb:q.2.bad=none
 ·obtain ⟨N,m,i1,i2⟩:=h2.inn 0 (s.size+1) hr hb;have:=i2.len;exact ⟨q,N,h1,zev s hs,Th.zm8 _ _ _,⟨1000,1000,by omega,by omega,h1⟩,fun _=>⟨0,m,i1,by omega⟩⟩
 ·exact ⟨q,0,h1,zev s hs,Th.zm8 _ _ _,⟨1000,1000,by omega,by omega,h1⟩,fun h=>absurd h hb⟩
variable {s:ByteArray}{q:List Th.zbr × Th.St}{N:Nat}
theorem zvZ(hs:s.size<=600)(hp:Plain s q N)(hb:q.2.bad=none):∀ f∈q.1,Cp.Dp 1300 f.e:=by
 obtain ⟨n,k,_,_,hq⟩:=hp.lines;have hl:=Th.zfE (s.size+1) s.data.toList 0;have hz:s.data.toList.length=s.size:=by rw[zAe];rfl
 rw[hz]at hl;have aj:(zay s).length<=s.size+1:=hl;obtain ⟨m,w1,w2⟩:=Th.zgp k [] _ ⟨zay s,none⟩ q hq (zqw hp.zct) (fun _=>⟨0,by simp,0,by simp,by simp⟩) hb;simp only at w2;have dj:∀ f∈q.1,Cp.wt m f.e<=1300:=fun f hf=>by have:=Th.zhY (fun f=>Cp.wt m f.e+f.params.length+1) hf;omega
 exact fun f hf=>(Th.zxi (w1 f hf).1).le (dj f hf)
theorem zsu(hs:s.size<=600)(hp:Plain s q N):answer s.size q N=answer s.size q 1300:=by
 unfold answer;cases hb:q.2.bad with
 |some p=>rfl
 |none=>
  obtain ⟨lo,hi,hin,_⟩:=hp.within hb;rw[Th.zoZ q.1 lo hi [] hin (zvZ hs hp hb)]
def zdw (s:ByteArray) (heap fuel:Int) (r:Ab.zsp) (c:Int):Prop:=∀ w:World,
 Calls prog 25 #[.string s,.int .i64 heap,.int .i64 fuel] w fun e w'=>e=.returned (.tuple #[ziu r.1 r.2.1 r.2.2.1 r.2.2.2,.int .i64 c])/\Fr (fun _=>False) w w'
noncomputable abbrev runL (l:List Th.zbr) (heap fuel:Int):Nat->Option Ab.zsp:=Ab.zwX (zb9 heap 262144/2) (Cp.program 1300 l) l.length ((Th.zaq l).idxOf Th.zcO) (zb9 fuel 4000000)
theorem zqm(x:Int)(m:Nat):zb9 x m<=m:=by unfold zb9;omega
variable {heap fuel:Int}{r:Ab.zsp}
theorem zjN(hs:s.size<=600)(hp:Plain s q N)(h0:(answer s.size q N).1=0)(h:Ab.Sure (runL q.1 heap fuel) r):zdw s heap fuel r 0:=by
 obtain ⟨c,hc⟩:=h;have h1:=hc 0;rw[zzG]at h1;have:=zqm heap 262144;exact fun w=>zwv hs hp h0 heap fuel (g:=c) (fun pv=>Ab.zt2 (by omega) h1) w
theorem zkr{cd:List (Nat × List Ins)}(c:Nat):∀ (g:Nat) (m:MSt) (q:Except Nat MSt),MSt.work cd g m=some q->MSt.work cd (g+c) m=some q
 |0,_,_,h=>by simp[MSt.work]at h
 |g+1,m,q,h=>by
  rw[show g+1+c=(g+c)+1 by omega];rw[MSt.work]at h ⊢;split at h
  ·next h1=>rw[if_pos h1];exact h
  ·next h1=>
   rw[if_neg h1];split at h
   ·cases h
   ·next h2=>
    rw[if_neg h2];split at h
    ·cases h
    ·split at h
     ·cases h
     ·exact h
     ·next m2 hk=>exact zkr c g m2 q h
theorem zt1(pv:Value)(cd:List (Nat × List Ins))(nf main words fu g c:Nat)(r:Ab.zsp)(h:runM pv cd nf main words fu g=some r):runM pv cd nf main words fu (g+c)=some r:=by
 unfold runM at h ⊢;split at h
 ·cases h
 ·exact h
 ·next m1 hk=>
  split at h
  ·cases h
  ·next k hw=>rw[zkr c g m1 _ hw];exact h
  ·next m2 hw=>rw[zkr c g m1 _ hw];exact h
theorem zod{words fu g:Nat}(hs:s.size<=600)(hq:zmt s=some q)(h0:(answer s.size q 1300).1=0)(hr:runM (.int .i64 0) (Cp.program 1300 q.1) q.1.length ((Th.zaq q.1).idxOf Th.zcO) words fu g=some r)(h4:r≠(4,0,0,0))(h5:r≠(5,0,0,0))(hw:words<=zb9 heap 262144)(hf:fu<=zb9 fuel 4000000):zdw s heap fuel r 0:=by
 obtain ⟨q',N,e1,hp⟩:=zjz s hs;rw[hq]at e1;cases e1;rw[<-zsu hs hp]at h0;have ho:=zmA hs hp h0;have:=zqm heap 262144;obtain ⟨r',c,hc⟩:=Sf.zjK ho (words/2) fu;have h1:=Ab.zt2 (pv:=.int .i64 0) (words:=words) (by omega) (hc g);have nZ:r'=r:=by
  have h2:=hr;have h3:=zt1 (.int .i64 0) (Cp.program 1300 q.1) q.1.length ((Th.zaq q.1).idxOf Th.zcO) words fu g c r h2;rw[h3]at h1;cases h1;rfl
 subst nZ;have h2:=Ab.zpM (hf:=words/2) (hf':=zb9 heap 262144/2) (by omega) hf (hc 0) h4 h5;refine zjN hs hp h0 ⟨c,fun k=>?_⟩;exact Ab.zpM (hf:=words/2) (hf':=zb9 heap 262144/2) (by omega) hf (hc k) h4 h5
end Go.Proofs.YtgahgkddaljmkaaGreatDoor
namespace Go.Proofs.YtgahgkddaljmkaaGreatDoor
open Tryz
def zsX (s:ByteArray) (words fu g:Nat) (r:Ab.zsp):Bool:=
 match zmt s with
 |none=>false
 |some q=>(answer s.size q 1300).1 == 0 && (runM (.int .i64 0) (Cp.program 1300 q.1) q.1.length ((Th.zaq q.1).idxOf Th.zcO) words fu g == some r)
variable {s:ByteArray}{r:Ab.zsp}{heap fuel:Int}
theorem zhR{words fu g:Nat}(h:zsX s words fu g r=true)(hs:s.size<=600)(h4:r≠(4,0,0,0))(h5:r≠(5,0,0,0))(hw:words<=zb9 heap 262144)(hf:fu<=zb9 fuel 4000000):zdw s heap fuel r 0:=by
 unfold zsX at h;split at h
 ·cases h
 ·next q hq=>
  rw[zzv]at h;exact zod hs hq (by simpa using h.1) (by simpa using h.2) h4 h5 hw hf
def wk0:ByteArray:=⟨#[107,32,120,32,121,32,61,32,120,59,32,109,97,105,110,32,61,32,107,32,52,32,40,49,32,47,32,48,41,59]⟩
theorem zwz:zsX wk0 100 60 30 (1,4,0,0)=true:=by kernel_rfl
theorem zwA:zdw wk0 262144 4000000 (1,4,0,0) 0:=zhR zwz (by decide) (by decide) (by decide) (by decide) (by decide)
def wk1:ByteArray:=⟨#[109,97,105,110,32,61,32,123,55,44,50,125,32,40,49,32,47,32,48,41,32,51,59]⟩
theorem zwB:zsX wk1 100 60 30 (2,0,7,2)=true:=by kernel_rfl
theorem zwC:zdw wk1 262144 4000000 (2,0,7,2) 0:=zhR zwB (by decide) (by decide) (by decide) (by decide) (by decide)
def wk2:ByteArray:=⟨#[109,97,105,110,32,61,32,49,32,47,32,48,59]⟩
theorem zwD:zsX wk2 100 60 30 (3,0,0,0)=true:=by kernel_rfl
theorem zwE:zdw wk2 262144 4000000 (3,0,0,0) 0:=zhR zwD (by decide) (by decide) (by decide) (by decide) (by decide)
end Go.Proofs.YtgahgkddaljmkaaGreatDoor
namespace Go.Proofs.YtgahgkddaljmkaaGreatDoor
open Tryz
open Go.RowKit
attribute [local go_sem ↓] Go.wp_at_zero Go.wp_at_succ
theorem zo2(w:World):
  Calls prog 20 #[] w fun e w'=>e=.returned (.bool true)/\Fr (fun _=>False) w w':=by
 have H0:=zwA;have H1:=zwC;have H2:=zwE;unfold zdw wk0 ziu at H0;unfold zdw wk1 ziu at H1;unfold zdw wk2 ziu at H2;have K0:=zab H0;have K1:=zab H1;have K2:=zab H2;clear H0 H1 H2;go_enter func20,ntmps20
 go_wp2_with fail
 refine (K0.o _).mono ?_;rintro e w1 ⟨rfl,f1⟩;have F1:=zab (f1.alloc (.cells #[.int .i64 1,.int .i64 4,.int .i64 0,.int .i64 0] 35));have B1:=zab (Blk.new w1 [.int .i64 1,.int .i64 4,.int .i64 0,.int .i64 0] 35);clear f1;go_wp2_with fail
 refine (K1.o _).mono ?_;rintro e w2 ⟨rfl,f2⟩;have F2:=zab ((F1.o.trans f2).alloc (.cells #[.int .i64 2,.int .i64 0,.int .i64 7,.int .i64 2] 35));have B2:=zab (Blk.new w2 [.int .i64 2,.int .i64 0,.int .i64 7,.int .i64 2] 35);have Bg:=zab (Fr.blk B1.o (f2.alloc (.cells #[.int .i64 2,.int .i64 0,.int .i64 7,.int .i64 2] 35)) (by simp));clear f2;go_wp2_with fail
 refine (K2.o _).mono ?_;rintro e w3 ⟨rfl,f3⟩;have F3:=zab ((F2.o.trans f3).alloc (.cells #[.int .i64 3,.int .i64 0,.int .i64 0,.int .i64 0] 35));have b3:=Blk.new w3 [.int .i64 3,.int .i64 0,.int .i64 0,.int .i64 0] 35;have q8:=Fr.blk B2.o (f3.alloc (.cells #[.int .i64 3,.int .i64 0,.int .i64 0,.int .i64 0] 35)) (by simp);have qZ:=Fr.blk Bg.o (f3.alloc (.cells #[.int .i64 3,.int .i64 0,.int .i64 0,.int .i64 0] 35)) (by simp);have c10:=qZ.cell 0;have c11:=qZ.cell 1;have wj:=qZ.cell 2;have wo:=qZ.cell 3;have Dw:=q8.cell 0;have Dx:=q8.cell 1;have Dy:=q8.cell 2;have Dz:=q8.cell 3;have DA:=b3.cell 0;have DB:=b3.cell 1;have DC:=b3.cell 2;have DD:=b3.cell 3;simp at c10 c11 wj wo Dw Dx Dy Dz DA DB DC DD;clear f3 b3 q8 qZ;go_wp2_with fail
 go_ret
 exact ⟨rfl,F3.o⟩
def zmD (c n:Int):Int:=(if c<0 then -(c+1) else c)%n
theorem zfA{c n:Int}(hn:0<n):0<=zmD c n/\zmD c n<n:=⟨Int.emod_nonneg _ (by omega),Int.emod_lt_of_pos _ hn⟩
theorem zfB{c n:Int}(h1:-9223372036854775808<=c)(h2:c<=9223372036854775807)(hn:0<n)(eY:n<=9223372036854775807)(w:World):
  Calls prog 23 #[.int .i64 c,.int .i64 n] w fun e w'=>e=.returned (.int .i64 (zmD c n))/\w'=w:=by
 by_cases hc:c<0
 ·go_enter func23,ntmps23
  go_wp2_with fail
  go_ret
  refine ⟨?_,rfl⟩;unfold zmD;rw[if_pos hc,<-Int.neg_tmod,Int.tmod_eq_emod_of_nonneg (by omega)];rfl
 ·go_enter func23,ntmps23
  go_wp2_with fail
  go_ret
  refine ⟨?_,rfl⟩;unfold zmD;rw[if_neg (by omega)];rfl
end Go.Proofs.YtgahgkddaljmkaaGreatDoor
