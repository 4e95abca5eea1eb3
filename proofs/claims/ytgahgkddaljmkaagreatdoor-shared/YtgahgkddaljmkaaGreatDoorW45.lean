/- ShB .. ShE -/
import Derived.Test.YtgahgkddaljmkaaGreatDoorW44
set_option maxRecDepth 100000
set_option maxHeartbeats 4000000
namespace Go.Proofs.YtgahgkddaljmkaaGreatDoor
open Tryz
open Th
def zlO (p:Nat):Nat->Nat->List Tok
 |i,0=>[⟨2,zfK i,p+17*i⟩,⟨4,[59],p+17*i+1⟩,⟨0,[],p+17*i+2⟩]
 |i,k+1=>⟨4,zqP,p+17*i⟩::⟨2,zfK (i+1),p+17*i+4⟩::⟨4,[61],p+17*i+6⟩::⟨2,zfK i,p+17*i+8⟩::⟨4,[43],p+17*i+10⟩::⟨2,zfK i,p+17*i+12⟩::⟨4,sIn,p+17*i+14⟩::zlO p (i+1) k
def zxO (ds:List UInt8) (p n:Nat):List Tok:=⟨2,zcO,0⟩::⟨4,[61],5⟩::⟨4,zqP,7⟩::⟨2,zfK 0,11⟩::⟨4,[61],13⟩::⟨3,ds,15⟩::⟨4,sIn,p⟩::zlO (p+3) 0 n
def ziv:List UInt8:=[109,97,105,110,32,61,32,108,101,116,32,97,32,61,32]
def zt3 (i:Nat):List UInt8:=[108,101,116,32]++zfK (i+1)++[32,61,32]++zfK i++[32,43,32]++zfK i++[32,105,110,32]
def zdZ (ds:List UInt8):Nat->List UInt8
 |0=>ziv++ds++[32,105,110,32]
 |i+1=>zdZ ds i++zt3 i
def zeX (ds:List UInt8) (n:Nat):List UInt8:=zdZ ds n++zfK n++[59]
def zd0:Nat->List UInt8
 |0=>[32,105,110,32]
 |i+1=>zd0 i++zt3 i
theorem zjQ(ds:List UInt8):∀ i,zdZ ds i=ziv++(ds++zd0 i)
 |0=>by simp[zdZ,zd0]
 |i+1=>by rw[zdZ,zjQ ds i,zd0];simp
theorem zhS:∀ i,(zd0 i).length=4+17*i
 |0=>rfl
 |i+1=>by rw[zd0,zyT,zhS i];simp[zt3,zfK];omega
theorem zog(ds:List UInt8)(n:Nat):zeX ds n=ziv++(ds++(zd0 n++(zfK n++[59]))):=by unfold zeX;rw[zjQ];simp
theorem zhT(ds:List UInt8)(n:Nat):(zeX ds n).length=21+ds.length+17*n:=by rw[zog];simp[zhS,ziv,zfK];omega
theorem zwt(k p:Nat){ds rest:List UInt8}(h1:ds≠[])(h2:∀ c∈ds,zba c=true)(h3:ds.length<=9):zdN (k+1) (32::(ds++32::rest)) p=⟨3,ds,p+1⟩::zdN k (32::rest) (p+1+ds.length):=by
 cases ds with
 |nil=>exact absurd rfl h1
 |cons c ds=>
  have hc:=h2 c (by simp);have hb:zda c=false:=by
   unfold zba at hc;unfold zda;simp only[zzv,decide_eq_true_eq]at hc;simp only[Bool.or_eq_false_iff,beq_eq_false_iff_ne,ne_eq];constructor <;> intro e <;> subst e <;> simp at hc
  have hl:isLet c=false:=by
   unfold zba at hc;unfold isLet;simp only[zzv,decide_eq_true_eq]at hc;rw[Bool.and_eq_false_iff];exact .inl (by simp;omega)
  have ng:((c::ds)++32::rest).takeWhile zba=c::ds:=by
   rw[List.takeWhile_append_of_pos h2,List.takeWhile_cons_of_neg (by decide),zzS]
  have cV:(32::((c::ds)++32::rest)).takeWhile zda=[32]:=by
   rw[List.takeWhile_cons_of_pos (by decide),zy7,List.takeWhile_cons_of_neg (by rw[hb];simp)]
  have hf:first ((c::ds)++32::rest)=(3,c::ds):=by
   have:first ((c::ds)++32::rest)=if isLet c then word (((c::ds)++32::rest).takeWhile zlx) else if zba c then zo7 (((c::ds)++32::rest).takeWhile zba) else if zbH ((c::ds)++32::rest)=0 then (1,[]) else (4,((c::ds)++32::rest).take (zbH ((c::ds)++32::rest))):=rfl
   rw[this,hl,hc,ng];simp only[zzw,if_false,if_true];unfold zo7;rw[if_neg (by omega)]
  rw[zdN];rw[cV,show ([32]:List UInt8).length=1 from rfl,List.drop_succ_cons,zzY,hf,if_neg (by omega),List.drop_left]
variable {n:Nat}
theorem zi0{α:Type}{f g:Nat->α}{m:Nat}(h:(List.range m).map f=(List.range m).map g)(hn:n<m):f n=g n:=List.map_inj_left.1 h n (List.mem_range.2 hn)
theorem zt5{L:Nat}(hL:L=1\/L=2\/L=3)(hn:n<25):zdN (16+L+17*n) (zd0 n++(zfK n++[59])) (15+L)=⟨4,sIn,16+L⟩::zlO (16+L+3) 0 n:=by
 rcases hL with rfl|rfl|rfl
 ·exact zi0 (f:=fun n=>zdN (16+1+17*n) (zd0 n++(zfK n++[59])) (15+1)) (g:=fun n=>⟨4,sIn,16+1⟩::zlO (16+1+3) 0 n) (by kernel_rfl) hn
 ·exact zi0 (f:=fun n=>zdN (16+2+17*n) (zd0 n++(zfK n++[59])) (15+2)) (g:=fun n=>⟨4,sIn,16+2⟩::zlO (16+2+3) 0 n) (by kernel_rfl) hn
 ·exact zi0 (f:=fun n=>zdN (16+3+17*n) (zd0 n++(zfK n++[59])) (15+3)) (g:=fun n=>⟨4,sIn,16+3⟩::zlO (16+3+3) 0 n) (by kernel_rfl) hn
theorem zof:∀ n,∃ r,zd0 n=32::r
 |0=>⟨_,rfl⟩
 |n+1=>by
  obtain ⟨r,e⟩:=zof n;exact ⟨r++zt3 n,by rw[zd0,e];rfl⟩
theorem zyz{ds:List UInt8}(h1:ds≠[])(h2:∀ c∈ds,zba c=true)(h3:ds.length<=3)(hn:n<25):zay ⟨(zeX ds n).toArray⟩=zxO ds (16+ds.length) n:=by
 have hl:=zzA.2 h1;have ht:=zt5 (L:=ds.length) (by omega) hn;obtain ⟨r,hr⟩:=zof n;have cT:(⟨(zeX ds n).toArray⟩:ByteArray).size=21+ds.length+17*n:=by
  show (zeX ds n).toArray.size=_;rw[zzr,zhT]
 unfold zay;rw[cT];show zdN (21+ds.length+17*n+1) (zeX ds n) 0=_;rw[show 21+ds.length+17*n+1=(16+ds.length+17*n+1)+5 by omega,zog,hr,zy7];rw[hr,zy7]at ht;have xW:∀ (k:Nat) (rest:List UInt8),zdN (k+5) (ziv++rest) 0=⟨2,zcO,0⟩::⟨4,[61],5⟩::⟨4,zqP,7⟩::⟨2,zfK 0,11⟩::⟨4,[61],13⟩::zdN k (32::rest) 14:=fun k rest=>by kernel_rfl
 rw[xW,zwt _ _ h1 h2 (by omega),show 14+1+ds.length=15+ds.length by omega,ht];rfl
theorem zt6{c:UInt8}(hc:c=48\/c=49\/c=50\/c=51\/c=52\/c=53\/c=54\/c=55\/c=56\/c=57)(more:List UInt8)(p:Nat):(List.range 25).map (fun n=>zcn (zdJ 1000) 1000 [] ⟨zxO (c::more) p n,none⟩)=(List.range 25).map (fun n=>some ([zlN (val (c::more)) (p+3) n],(⟨[⟨0,[],p+3+17*n+2⟩],none⟩:St))):=by
 rcases hc with rfl|rfl|rfl|rfl|rfl|rfl|rfl|rfl|rfl|rfl
 ·kernel_rfl
 ·kernel_rfl
 ·kernel_rfl
 ·kernel_rfl
 ·kernel_rfl
 ·kernel_rfl
 ·kernel_rfl
 ·kernel_rfl
 ·kernel_rfl
 ·kernel_rfl
theorem zv7{c:UInt8}(hc:zba c=true)(more:List UInt8)(p:Nat)(hn:n<25):zcn (zdJ 1000) 1000 [] ⟨zxO (c::more) p n,none⟩=some ([zlN (val (c::more)) (p+3) n],⟨[⟨0,[],p+3+17*n+2⟩],none⟩):=by
 unfold zba at hc;simp only[zzv,decide_eq_true_eq]at hc;refine zi0 (zt6 ?_ more p) hn;simp only[<-UInt8.toNat_inj];show c.toNat=48\/c.toNat=49\/c.toNat=50\/c.toNat=51\/c.toNat=52\/c.toNat=53\/c.toNat=54\/c.toNat=55\/c.toNat=56\/c.toNat=57;omega
theorem zyx(x p z:Nat)(st:List Tok)(hn:n<25):(answer z ([zlN x p n],⟨st,none⟩) 1300).1=0:=
 zi0 (f:=fun n=>(answer z ([zlN x p n],⟨st,none⟩) 1300).1) (g:=fun _=>0) (by kernel_rfl) hn
theorem zwQ{x:Nat}(hx:x<1000):∀ n,n<25->dbl x n=((x*2 ^ n:Nat):Int)
 |0,_=>by simp[dbl]
 |n+1,hn=>by
  have h2:2 ^ n<=2 ^ 24:=zz9 (by decide) (by omega);have h3:x*2 ^ n<=999*2 ^ 24:=zAg (by omega) h2;rw[dbl,zwQ hx n (by omega),Nat.pow_succ,<-Nat.mul_assoc];rw[IntWalk.i64_in _ ⟨by omega,by omega⟩];omega
theorem zxh{f:Nat}(hf:f<1000):∃ c more,zrn 3 f=c::more/\(∀ d∈c::more,zba d=true)/\(c::more).length<=3/\val (c::more)=f:=by
 have h:=zi0 (m:=1000) (f:=fun f=>match zrn 3 f with|[]=>false|c::more=>(c::more).all zba && decide ((c::more).length<=3) && (val (c::more) == f)) (g:=fun _=>true) (by kernel_rfl) hf;split at h
 ·cases h
 ·next c more e=>
  simp only[zzv,List.all_eq_true,decide_eq_true_eq,beq_iff_eq]at h;exact ⟨c,more,e,h.1.1,h.1.2,h.2⟩
theorem zxP{f:Nat}(hf:f<1000)(hn:n<25):zdw ⟨(zeX (zrn 3 f) n).toArray⟩ 262144 4000000 (1,((f*2 ^ n:Nat):Int),0,0) 0:=by
 obtain ⟨c,more,e1,e2,e3,e4⟩:=zxh hf;rw[e1];have ES:=zyz (ds:=c::more) (by simp) e2 e3 hn;have cT:(⟨(zeX (c::more) n).toArray⟩:ByteArray).size=21+(c::more).length+17*n:=by
  show (zeX (c::more) n).toArray.size=_;rw[zzr,zhT]
 refine zod (q:=([zlN (val (c::more)) (16+(c::more).length+3) n],⟨[⟨0,[],16+(c::more).length+3+17*n+2⟩],none⟩)) (words:=60+15*n) (fu:=20+17*n) (g:=20+17*n) (by omega) ?_ (zyx _ _ _ _ hn) ?_ (by simp) (by simp) (by unfold zb9;omega) (by unfold zb9;omega)
 ·unfold zmt;rw[ES];exact zv7 (e2 c (by simp)) more _ hn
 ·rw[e4,<-zwQ hf n hn];exact zyA f _ hn
end Go.Proofs.YtgahgkddaljmkaaGreatDoor
namespace Go.Proofs.YtgahgkddaljmkaaGreatDoor
open Tryz
open Go.RowKit
attribute [local go_sem ↓] Go.wp_at_zero Go.wp_at_succ
abbrev zxN:ByteArray:=⟨#[97,98,99,100,101,102,103,104,105,106,107,108,109,110,111,112,113,114,115,116,117,118,119,120,121,122]⟩
theorem zv6{i:Nat}(hi:i<26):zxN.extract i (i+1)=⟨(zfK i).toArray⟩:=zi0 (f:=fun i=>zxN.extract i (i+1)) (g:=fun i=>⟨(zfK i).toArray⟩) (by kernel_rfl) hi
theorem zre{a b t:List UInt8}(e:t=a++b)(h:t.length<=1000000):∀ W:World,(Op.stringOp .add ⟨a.toArray⟩ ⟨b.toArray⟩).run prog W=.ok (.string ⟨t.toArray⟩) W:=zl9 (by rw[e,zqj]) (by show t.toArray.size<=_;rw[zzr];exact h)
theorem zl8{i:Nat}(hi:i<26){a t:List UInt8}(e:t=a++zfK i)(h:t.length<=1000000):∀ W:World,(Op.stringOp .add ⟨a.toArray⟩ (zxN.extract i (i+1))).run prog W=.ok (.string ⟨t.toArray⟩) W:=by
 rw[zv6 hi];exact zre e h
theorem zrV(ds:List UInt8)(k:Nat):(zdZ ds k).length=19+ds.length+17*k:=by rw[zjQ];simp[zhS,ziv];omega
theorem zwP(l:List UInt8):(⟨l.toArray⟩:ByteArray).size=l.length:=zzr ..
theorem zq7{first times:Int}(h1:-9223372036854775808<=first)(h2:first<=9223372036854775807)(h3:-9223372036854775808<=times)(h4:times<=9223372036854775807)(w:World):
  Calls prog 8 #[.int .i64 first,.int .i64 times] w fun e w'=>e=.returned (.bool true)/\Fr (fun _=>False) w w':=by
 have P1:=zfB h3 h4 (n:=25) (by omega) (by omega);have P2:=zfB h1 h2 (n:=1000) (by omega) (by omega);obtain ⟨a1,a2⟩:=zfA (c:=times) (n:=25) (by omega);obtain ⟨a3,a4⟩:=zfA (c:=first) (n:=1000) (by omega);obtain ⟨n,hn⟩:=Int.eq_ofNat_of_zero_le a1;obtain ⟨f,hf⟩:=Int.eq_ofNat_of_zero_le a3;rw[hn]at P1 a1 a2;rw[hf]at P2 a3 a4;have xN:n<25:=by omega
 have kU:f<1000:=by omega
 have D:=zjb 3 f (by omega) kU (by omega);have R:=zxP kU xN;unfold zdw ziu at R;have W:=zab zo2;have Q1:=zab P1;have Q2:=zab P2;have QD:=zab D;have KR:=zab R;clear P1 P2 D R h1 h2 h3 h4 a1 a2 a3 a4 hn hf;have rY:=zme 3 f;generalize zrn 3 f=ds at *;go_enter func8,ntmps8
 go_wp2_with fail
 refine (W.o _).mono ?_;rintro e w1 ⟨rfl,f1⟩;have F1:=zab f1;clear f1;go_wp2_with fail
 refine (Q1.o _).mono ?_;rintro e w2 ⟨rfl,rfl⟩;go_wp2_with fail
 refine (Q2.o _).mono ?_;rintro e w3 ⟨rfl,rfl⟩;have c1:=zl9 (a:=⟨#[109,97,105,110,32,61,32,108,101,116,32,97,32,61,32]⟩) (b:=⟨ds.toArray⟩) (r:=⟨(ziv++ds).toArray⟩) (zqj ziv ds).symm (by rw[zwP];simp[ziv];omega);have c2:=zl9 (a:=⟨(ziv++ds).toArray⟩) (b:=⟨#[32,105,110,32]⟩) (r:=⟨(zdZ ds 0).toArray⟩) (zqj (ziv++ds) [32,105,110,32]).symm (by rw[zwP];simp[ziv,zdZ];omega);go_wp2_with fail
 refine (QD.o _).mono ?_;rintro e w4 ⟨rfl,rfl⟩;go_wp2_with fail
 go_loopg [9,10,11] n (fun gk tv wv iv wr=>∃ k v:Nat,iv=.int .i64 ((k:Int)+1)/\k<=n/\n-k<=gk/\tv=.string ⟨(zdZ ds k).toArray⟩/\wv=.int .i64 (v:Int)/\v=f*2 ^ k/\wr=w4)
 case atStart=>exact ⟨0,f,rfl,zy5 _,zyN _,rfl,rfl,by simp,rfl⟩
 case round=>
  obtain ⟨k,v,rfl,hk,jm,rfl,rfl,hv,rfl⟩:=hrel;have h2:2 ^ k<=2 ^ 24:=zz9 (by decide) (by omega);have h3:f*2 ^ k<=999*2 ^ 24:=zAg (by omega) h2;have h4:(2:Nat) ^ 24=16777216:=by decide
  have tx:v<=16760438784:=by rw[hv];omega
  have HV:=zab hv;clear hv h2 h3 h4 c1 c2;have l0:=zrV ds k;by_cases aj:k<n
  ·obtain ⟨t1,e1⟩:∃ t,t=zdZ ds k++[108,101,116,32]:=⟨_,rfl⟩;obtain ⟨t2,e2⟩:∃ t,t=t1++zfK (k+1):=⟨_,rfl⟩;obtain ⟨t3,e3⟩:∃ t,t=t2++[32,61,32]:=⟨_,rfl⟩;obtain ⟨t4,e4⟩:∃ t,t=t3++zfK k:=⟨_,rfl⟩;obtain ⟨t5,e5⟩:∃ t,t=t4++[32,43,32]:=⟨_,rfl⟩;obtain ⟨t6,e6⟩:∃ t,t=t5++zfK k:=⟨_,rfl⟩;obtain ⟨t7,e7⟩:∃ t,t=t6++[32,105,110,32]:=⟨_,rfl⟩;have l1:t1.length<=500:=by rw[e1];simp;omega
   have l2:t2.length<=501:=by rw[e2];simp[zfK];omega
   have l3:t3.length<=504:=by rw[e3];simp;omega
   have l4:t4.length<=505:=by rw[e4];simp[zfK];omega
   have l5:t5.length<=508:=by rw[e5];simp;omega
   have l6:t6.length<=509:=by rw[e6];simp[zfK];omega
   have l7:t7.length<=513:=by rw[e7];simp;omega
   have q1:=zre e1 (by omega);have q2:=zl8 (i:=k+1) (by omega) e2 (by omega);have q3:=zre e3 (by omega);have q4:=zl8 (i:=k) (by omega) e4 (by omega);have q5:=zre e5 (by omega);have q6:=zl8 (i:=k) (by omega) e6 (by omega);have q7:=zre e7 (by omega);have E7:=zab (show t7=zdZ ds (k+1) by rw[e7,e6,e5,e4,e3,e2,e1,zdZ,zt3];simp);clear e1 e2 e3 e4 e5 e6 e7 l0 l1 l2 l3 l4 l5 l6 l7;go_wp2_with fail
   go_roundg (n-(k+1))
   case measure=>omega
   case rel=>exact ⟨k+1,2*v,by go_num,by omega,zyN _,by rw[E7.o],by go_num,by rw[HV.o,Nat.pow_succ,Nat.mul_left_comm,Nat.mul_comm 2],rfl⟩
  ·obtain rfl:k=n:=by omega
   obtain ⟨t1,e1⟩:∃ t,t=zdZ ds k++zfK k:=⟨_,rfl⟩;have l1:t1.length<=500:=by rw[e1];simp[zfK];omega
   have q1:=zl8 (i:=k) (by omega) e1 (by omega);have q2:=zre (a:=t1) (b:=[59]) (t:=zeX ds k) (by rw[e1];rfl) (by rw[zhT];omega);clear e1 l0 l1;go_wp2_with fail
   refine (KR.o _).mono ?_;rintro e w5 ⟨rfl,f5⟩;rw[<-HV.o];have F5:=zab ((F1.o.trans f5).alloc (.cells #[.int .i64 1,.int .i64 v,.int .i64 0,.int .i64 0] 35));have b5:=Blk.new w5 [.int .i64 1,.int .i64 v,.int .i64 0,.int .i64 0] 35;have c10:=b5.cell 0;have c11:=b5.cell 1;have wj:=b5.cell 2;have wo:=b5.cell 3;simp at c10 c11 wj wo;clear f5 b5;go_wp2_with fail
   go_ret
   exact ⟨rfl,F5.o⟩
end Go.Proofs.YtgahgkddaljmkaaGreatDoor
