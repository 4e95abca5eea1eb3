/- Run2 .. LawK2 -/
import Derived.Test.YtgahgkddaljmkaaGreatDoorQ17
set_option maxRecDepth 100000
set_option maxHeartbeats 4000000
namespace Go.Proofs.YtgahgkddaljmkaaGreatDoor
open Tryz
open Go.RowKit
namespace Th
theorem zoX{wr tT:Ex->List (List UInt8)->List Nat}{P:Ex->Nat->Nat->Prop}{ar:List (List UInt8)}:∀ (l:List Tok) (es:List Ex) (lo hi:Nat) (seen:List (List UInt8)),zbd P lo hi l es->(∀ e∈es,∀ lo hi ar,P e lo hi->wr e ar=tT e ar)->zbq wr ar seen l es=zbq tT ar seen l es
 |[],[],_,_,_,_,_=>rfl
 |[],_::_,_,_,_,h,_=>h.elim
 |_::_,[],_,_,_,h,_=>h.elim
 |t::l,e::es,lo,hi,seen,⟨_,m,h1,h2⟩,hw=>by
  rw[zbq,zbq,hw e (by simp) _ _ ar h1,zoX l es m hi _ h2 (fun x hx=>hw x (by simp[hx]))]
theorem zqZ{wr tT:Ex->List (List UInt8)->List Nat}{P:Ex->Nat->Nat->Prop}{ar:List (List UInt8)}:∀ (l:List (Nat × List Tok)) (es:List Ex) (lo hi:Nat),zcb P lo hi l es->(∀ e∈es,∀ lo hi ar,P e lo hi->wr e ar=tT e ar)->zeG wr ar l es=zeG tT ar l es
 |[],[],_,_,_,_=>rfl
 |[],_::_,_,_,h,_=>h.elim
 |_::_,[],_,_,h,_=>h.elim
 |t::l,e::es,lo,hi,⟨m1,m2,_,h1,h2⟩,hw=>by
  rw[zeG,zeG,hw e (by simp) _ _ _ h1,zqZ l es m2 hi h2 (fun x hx=>hw x (by simp[hx]))]
theorem zo3:∀ (N K:Nat) (e:Ex) (lo hi:Nat) (ar:List (List UInt8)),In N e lo hi->Cp.Dp K e->zar N e ar=zar K e ar
 |0,_,_,_,_,_,h,_=>h.elim
 |_+1,0,_,_,_,_,_,h=>h.elim
 |N+1,K+1,e,lo,hi,ar,h,hd=>by
  have ih:=fun (x:Ex) (hx:x∈e.kids) (lo hi:Nat) (ar:List (List UInt8)) (eX:In N x lo hi)=>zo3 N K x lo hi ar eX (hd.2 x hx)
  rcases h.2 with hk|⟨hk,_⟩|⟨hk,b,m',k1,_,k2⟩|⟨hk,e1,e2,m',k1,k2,k3⟩|⟨hk,b,parts,m',k1,k2,k3⟩|⟨hk,b,ag,m',k1,k2,k3⟩
  ·rw[znh hk,znh hk]
  ·rw[zuX hk,zuX hk]
  ·rw[zuV hk k1,zuV hk k1,ih b (by simp[k1]) _ _ _ k2]
  ·rw[zq4 hk k1,zq4 hk k1,ih e1 (by simp[k1]) _ _ _ k2,ih e2 (by simp[k1]) _ _ _ k3]
  ·rw[zuW hk k1,zuW hk k1,ih b (by simp[k1]) _ _ _ k3,zoX _ _ _ _ _ k2 (fun x hx lo hi ar hP=>ih x (by simp[k1,hx]) lo hi ar hP)]
  ·rw[zqa hk k1,zqa hk k1,ih b (by simp[k1]) _ _ _ k2,zqZ _ _ _ _ k3 (fun x hx lo hi ar hP=>ih x (by simp[k1,hx]) lo hi ar hP)]
theorem zoZ{N K:Nat}{all:List (List UInt8)}:∀ (l:List zbr) (lo hi:Nat) (seen:List (List UInt8)),zbM N lo hi l->(∀ f∈l,Cp.Dp K f.e)->zbL N all seen l=zbL K all seen l
 |[],_,_,_,_,_=>rfl
 |x::l,lo,hi,seen,⟨_,m1,m2,_,h1,h2⟩,hd=>by
  rw[zbL,zbL,zo3 N K x.e _ _ _ h1 (hd x (by simp)),zoZ l _ _ _ h2 (fun f hf=>hd f (by simp[hf]))]
end Th
def zmt (s:ByteArray):Option (List Th.zbr × Th.St):=Th.zcn (Th.zdJ 1000) 1000 [] ⟨zay s,none⟩
theorem zjz(s:ByteArray)(hs:s.size<=600):∃ q N,zmt s=some q/\Plain s q N:=by
 have hr:Th.zcx 0 (s.size+1) (zay s):=by
  have:=Th.zhu (s.size+1) s.data.toList 0;rw[zAe,zzG]at this;exact this
 have hl:=hr.len;obtain ⟨q,h1,h2⟩:=Th.zjA (Th.zmC 1000) 1000 [] ⟨zay s,none⟩ ⟨zay s,none⟩ ⟨Th.Step.refl _,fun lo M hr _=>⟨0,lo,zyN _,hr⟩⟩ (by show (zay s).length+1<1000;omega) (by show (zay s).length+1+1<1000;omega);by_cases hb:q.2.bad=none
 ·obtain ⟨N,m,i1,i2⟩:=h2.inn 0 (s.size+1) hr hb;have:=i2.len;exact ⟨q,N,h1,zev s hs,Th.zm8 _ _ _,⟨1000,1000,by omega,by omega,h1⟩,fun _=>⟨0,m,i1,by omega⟩⟩
 ·exact ⟨q,0,h1,zev s hs,Th.zm8 _ _ _,⟨1000,1000,by omega,by omega,h1⟩,fun h=>absurd h hb⟩
variable {N:Nat}
theorem zvZ{s:ByteArray}{q:List Th.zbr × Th.St}(hs:s.size<=600)(hp:Plain s q N)(hb:q.2.bad=none):∀ f∈q.1,Cp.Dp 1300 f.e:=by
 obtain ⟨n,k,_,_,hq⟩:=hp.lines;have hl:=Th.zfE (s.size+1) s.data.toList 0;have hz:s.data.toList.length=s.size:=by rw[zAe];rfl
 rw[hz]at hl;have aj:(zay s).length<=s.size+1:=hl;obtain ⟨m,w1,w2⟩:=Th.zgp k [] _ ⟨zay s,none⟩ q hq (zqw hp.zct) (fun _=>⟨0,by simp,0,by simp,by simp⟩) hb;simp only at w2;have dj:∀ f∈q.1,Cp.wt m f.e<=1300:=fun f hf=>by have:=Th.zhY (fun f=>Cp.wt m f.e+f.params.length+1) hf;omega
 exact fun f hf=>(Th.zxi (w1 f hf).1).le (dj f hf)
theorem zsu{s:ByteArray}{q:List Th.zbr × Th.St}(hs:s.size<=600)(hp:Plain s q N):answer s.size q N=answer s.size q 1300:=by
 unfold answer;cases hb:q.2.bad with
 |some p=>rfl
 |none=>
  obtain ⟨lo,hi,hin,_⟩:=hp.within hb;rw[Th.zoZ q.1 lo hi [] hin (zvZ hs hp hb)]
def zdw (s:ByteArray) (heap fuel:Int) (r:Ab.zsp) (c:Int):Prop:=∀ w:World,
 Calls prog 25 #[.string s,.int .i64 heap,.int .i64 fuel] w fun e w'=>e=.returned (.tuple #[ziu r.1 r.2.1 r.2.2.1 r.2.2.2,.int .i64 c])/\Fr (fun _=>False) w w'
theorem zqm(x:Int)(m:Nat):zb9 x m<=m:=by unfold zb9;omega
end Go.Proofs.YtgahgkddaljmkaaGreatDoor
namespace Go.Proofs.YtgahgkddaljmkaaGreatDoor
open Tryz
open Go.RowKit
attribute [local go_sem ↓] Go.wp_at_zero Go.wp_at_succ
def zmD (c n:Int):Int:=(if c<0 then -(c+1) else c)%n
theorem zfA{c n:Int}(hn:0<n):0<=zmD c n/\zmD c n<n:=⟨Int.emod_nonneg _ (by omega),Int.emod_lt_of_pos _ hn⟩
theorem zfB{c n:Int}(h1:-9223372036854775808<=c)(h2:c<=9223372036854775807)(hn:0<n)(eY:n<=9223372036854775807)(w:World):
  Calls prog 23 #[.int .i64 c,.int .i64 n] w fun e w'=>e=.returned (.int .i64 (zmD c n))/\w'=w:=by
 by_cases hc:c<0
 ·go_enter func23,ntmps23
  go_wp2_with fail
  go_ret
  refine ⟨?_,rfl⟩;unfold zmD;rw[if_pos hc,<-Int.neg_tmod,Int.tmod_eq_emod_of_nonneg (by omega)];rfl
 ·go_enter func23,ntmps23
  go_wp2_with fail
  go_ret
  refine ⟨?_,rfl⟩;unfold zmD;rw[if_neg (by omega)];rfl
theorem zrQ(r:Ab.zsp)(w:World):
  Calls prog 26 #[ziu r.1 r.2.1 r.2.2.1 r.2.2.2] w fun e w'=>e=.returned (.bool (decide (r=(4,0,0,0)\/r=(5,0,0,0))))/\Fr (fun _=>False) w w':=by
 obtain ⟨k,n,t,a⟩:=r;unfold ziu;go_enter func26,ntmps26
 go_wp2_with fail
 all_goals
  go_ret
  refine ⟨?_,(Fr.refl _ _).alloc _⟩;simp[*]
end Go.Proofs.YtgahgkddaljmkaaGreatDoor
