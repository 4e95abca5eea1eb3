/- LiD .. LiE -/
import Derived.Test.YtgahgkddaljmkaaGreatDoorX46
set_option maxRecDepth 100000
set_option maxHeartbeats 4000000
namespace Go.Proofs.YtgahgkddaljmkaaGreatDoor
open Tryz
open Go.RowKit
attribute [local go_sem ↓] Go.wp_at_zero Go.wp_at_succ
theorem zAQ{s:ByteArray}{r:Ab.zsp}{heap fuel:Int}(hk:r.1<=3)(h1:zdw s 262144 4000000 r 0)(h2:∃ r',zdw s heap fuel r' 0/\(r'=(4,0,0,0)\/r'=(5,0,0,0)\/r'=r))(w:World):
  Calls prog 21 #[.string s,ziu r.1 r.2.1 r.2.2.1 r.2.2.2,.int .i64 heap,.int .i64 fuel] w fun e w'=>e=.returned (.bool true)/\Fr (fun _=>False) w w':=by
 obtain ⟨r',h2,E0⟩:=h2;have RO:=zrQ r';obtain ⟨k,n,t,a⟩:=r;obtain ⟨k',n',t',a'⟩:=r';unfold zdw ziu at h1 h2;unfold ziu at RO;have K1:=zab h1;have K2:=zab h2;have KO:=zab RO;have Ie:=zab E0;clear h1 h2 RO E0;have F0:=zab ((Fr.refl (fun _=>False) w).alloc (.cells #[.int .i64 k,.int .i64 n,.int .i64 t,.int .i64 a] 35));have B0:=zab (Blk.new w [.int .i64 k,.int .i64 n,.int .i64 t,.int .i64 a] 35);unfold ziu;go_enter func21,ntmps21
 go_wp2_with fail
 refine (K1.o _).mono ?_;rintro e w1 ⟨rfl,f1⟩;have F1:=zab ((F0.o.trans f1).alloc (.cells #[.int .i64 k,.int .i64 n,.int .i64 t,.int .i64 a] 35));have B1:=zab (Blk.new w1 [.int .i64 k,.int .i64 n,.int .i64 t,.int .i64 a] 35);have Ic:=zab (Fr.blk B0.o (f1.alloc (.cells #[.int .i64 k,.int .i64 n,.int .i64 t,.int .i64 a] 35)) (by simp));clear f1;go_wp2_with fail
 refine (K2.o _).mono ?_;rintro e w2 ⟨rfl,f2⟩;have F2:=zab ((F1.o.trans f2).alloc (.cells #[.int .i64 k',.int .i64 n',.int .i64 t',.int .i64 a'] 35));have b2:=Blk.new w2 [.int .i64 k',.int .i64 n',.int .i64 t',.int .i64 a'] 35;have Hz:=Fr.blk B1.o (f2.alloc (.cells #[.int .i64 k',.int .i64 n',.int .i64 t',.int .i64 a'] 35)) (by simp);have E7:=Fr.blk Ic.o (f2.alloc (.cells #[.int .i64 k',.int .i64 n',.int .i64 t',.int .i64 a'] 35)) (by simp);have Ig:=E7.cell 0;have Ih:=E7.cell 1;have Ii:=E7.cell 2;have Ij:=E7.cell 3;have c10:=Hz.cell 0;have c11:=Hz.cell 1;have wj:=Hz.cell 2;have wo:=Hz.cell 3;have Dw:=b2.cell 0;have Dx:=b2.cell 1;have Dy:=b2.cell 2;have Dz:=b2.cell 3;simp at Ig Ih Ii Ij c10 c11 wj wo Dw Dx Dy Dz;clear f2 b2 Hz E7;have fy:k<=3:=hk;clear hk;rcases Ie.o with ho|ho|ho
 ·cases ho;go_wp2_with fail
  refine (KO.o _).mono ?_;rintro e w3 ⟨rfl,f3⟩;rw[decide_eq_true (.inl trivial)];have F3:=zab (F2.o.trans f3);clear f3;go_wp2_with fail
  go_ret
  exact ⟨rfl,F3.o⟩
 ·cases ho;go_wp2_with fail
  refine (KO.o _).mono ?_;rintro e w3 ⟨rfl,f3⟩;rw[decide_eq_true (.inr trivial)];have F3:=zab (F2.o.trans f3);clear f3;go_wp2_with fail
  go_ret
  exact ⟨rfl,F3.o⟩
 ·cases ho;go_wp2_with fail
  go_ret
  exact ⟨rfl,F2.o⟩
theorem zre{a b t:List UInt8}(e:t=a++b)(h:t.length<=1000000):∀ W:World,(Op.stringOp .add ⟨a.toArray⟩ ⟨b.toArray⟩).run prog W=.ok (.string ⟨t.toArray⟩) W:=zl9 (by rw[e,zqj]) (by show t.toArray.size<=_;rw[zzr];exact h)
def liX (P:Nat->Nat):Nat->List Nat
 |0=>[]
 |k+1=>P k::liX P k
theorem zAG(P:Nat->Nat):∀ k,(liX P k).length=k
 |0=>rfl
 |k+1=>by rw[liX,zy8,zAG P k]
theorem zAZ{P:Nat->Nat}(h:∀ i,P i<1000):∀ k,∀ x∈liX P k,x<1000
 |0,x,hx=>by simp[liX]at hx
 |k+1,x,hx=>by
  rw[liX]at hx;rcases zzo.1 hx with rfl|hx
  ·exact h k
  ·exact zAZ h k x hx
theorem zA0{P:Nat->Nat}(h:∀ i,P i<1000):∀ k,(liX P k).sum<=999*k
 |0=>by simp[liX]
 |k+1=>by
  have:=h k;have:=zA0 h k;rw[liX,zzd];omega
def liL (P:Nat->Nat) (k:Nat):List (List UInt8):=(liX P k).map (zrn 3)
variable {P:Nat->Nat}
theorem zAX(h:∀ i,P i<1000)(k:Nat):Digs (liL P k)/\∀ d∈liL P k,d.length<=3:=by
 have key:∀ d∈liL P k,d≠[]/\(∀ c∈d,Th.zba c=true)/\d.length<=3:=fun d hd=>by
  obtain ⟨x,hx,rfl⟩:=zz1.1 hd;obtain ⟨c,more,e1,e2,e3,_⟩:=zxh (zAZ h k x hx);rw[e1];exact ⟨by simp,e2,e3⟩
 exact ⟨fun d hd=>⟨(key d hd).1,(key d hd).2.1,by have:=(key d hd).2.2;omega⟩,fun d hd=>(key d hd).2.2⟩
theorem zAS{P:Nat->Nat}(h:∀ i,P i<1000):∀ k,zAN (liL P k)=(liX P k).map fun (x:Nat)=>(x:Int)
 |0=>rfl
 |k+1=>by
  obtain ⟨c,more,e1,_,_,e4⟩:=zxh (h k);have:=zAS h k;unfold liL zAN at this ⊢;rw[liX,zza,zza,zza,this,e1,e4]
theorem zBo:∀ l:List Nat,(∀ x∈l,x<1000)->l.length<=5->sumW (l.map fun (x:Nat)=>(x:Int))=((l.sum:Nat):Int)/\l.sum<=999*l.length
 |[],_,_=>⟨rfl,by simp⟩
 |x::l,h,hl=>by
  have hx:=h x (by simp);obtain ⟨h1,h2⟩:=zBo l (fun y hy=>h y (by simp[hy])) (by simp at hl;omega);rw[zy8]at hl ⊢;rw[zza,sumW,h1,zzd,IntWalk.i64_in _ ⟨by omega,by omega⟩];omega
theorem zAV:∀ l:List Int,l.length<=5->cntW l=(l.length:Int)
 |[],_=>rfl
 |x::l,hl=>by
  rw[zy8]at hl;rw[cntW,zAV l (by omega),IntWalk.i64_in _ ⟨by omega,by omega⟩,zy8];omega
theorem zAT(P:Nat->Nat):∀ k,liR 2 ((liX P (k+1)).map fun (x:Nat)=>(x:Int))=(1,(P 0:Int),0,0)
 |0=>rfl
 |k+1=>by
  have:=zAT P k;rw[liX]at this ⊢;rw[liX,zza,zza];exact this
theorem Fr.down{a b:World}(h:Fr (fun _=>False) a b):Below a.heap.size a b:=⟨h.os,h.tape,h.output,h.size,fun k hk=>h.block k hk (fun e=>e)⟩
theorem zAU(hP:∀ i,P i<1000){k kd:Nat}(hk:k<=5)(iI:kd<3){x y:Int}(hr:liR kd ((liX P k).map fun (x:Nat)=>(x:Int))=(x,y,0,0))(hx:x=1\/x=3)(heap fuel:Int):∀ W:World,
  Calls prog 21 #[.string ⟨(zAC kd (liL P k)).toArray⟩,.agg #[.int .i64 x,.int .i64 y,.int .i64 0,.int .i64 0],.int .i64 heap,.int .i64 fuel] W fun e w'=>e=.returned (.bool true)/\Fr (fun _=>False) W w':=by
 intro W;obtain ⟨d1,d2⟩:=zAX hP k;have hv:=zAS hP k;rw[<-hv]at hr;have hl:(liL P k).length<=5:=by unfold liL;rw[List.length_map,zAG];exact hk
 have h4:liR kd (zAN (liL P k))≠(4,0,0,0):=by rw[hr];intro e;cases e;omega
 have h5:liR kd (zAN (liL P k))≠(5,0,0,0):=by rw[hr];intro e;cases e;omega
 obtain ⟨r1,r2⟩:=zBu iI (liL P k) hl d1 d2 h4 h5;rw[hr]at r1 r2;exact zAQ (r:=(x,y,0,0)) (by show x<=3;omega) r1 (r2 heap fuel) W
theorem zAI{a:Option Addr}{len cap:Nat}{l7 heap fuel:Int}{g:Nat->Int}{w:World}(hlen:len<=9223372036854775807)(l0:∀ i,i<len->∃ A:Addr,a=some A/\A.block<w.heap.size/\w.cell? (A.add i)=some (.int .i64 (g i)))(hg:∀ i,-9223372036854775808<=g i/\g i<=9223372036854775807)(h1:-9223372036854775808<=l7)(h2:l7<=9223372036854775807):
  Calls prog 9 #[.slice a len cap,.int .i64 l7,.int .i64 heap,.int .i64 fuel] w fun e w'=>e=.returned (.bool true)/\Fr (fun _=>False) w w':=by
 obtain ⟨P,hP⟩:∃ P:Nat->Nat,∀ i,zmD (g i) 1000=((P i:Nat):Int):=⟨fun i=>(zmD (g i) 1000).toNat,fun i=>by have:=(zfA (c:=g i) (n:=1000) (by omega)).1;show _=((zmD (g i) 1000).toNat:Int);omega⟩;have Ib:∀ i,P i<1000:=fun i=>by have:=(zfA (c:=g i) (n:=1000) (by omega)).2;rw[hP i]at this;omega
 have PK:Hid (∀ (i:Nat) (W:World),Calls prog 23 #[.int .i64 (g i),.int .i64 1000] W fun e w'=>e=.returned (.int .i64 (P i))/\w'=W):=zab fun i W=>by
  have:=zfB (hg i).1 (hg i).2 (n:=1000) (by omega) (by omega) W
  rwa [hP i]at this
 have PW:=zab (zfB h1 h2 (n:=3) (by omega) (by omega));obtain ⟨b1,b2⟩:=zfA (c:=l7) (n:=3) (by omega);generalize zmD l7 3=kd at *;have q7:=zab Ib;have W:=zab zo2;have HC:=zab l0;clear hP hg h1 h2 l0 Ib;go_enter func9,ntmps9
 go_wp2_with fail
 refine (W.o _).mono ?_;rintro e w1 ⟨rfl,f1⟩;have F1:=zab f1;have lR:Hid (∀ i,i<len->∃ A:Addr,a=some A/\A.block<w1.heap.size/\w1.cell? (A.add i)=some (.int .i64 (g i))):=zab fun i hi=>by
  obtain ⟨A,e1,e2,e3⟩:=HC.o i hi;exact ⟨A,e1,zyS e2 f1.size,(f1.down.cell (p:=A.add i) (by unfold Addr.add;split <;> exact e2)).trans e3⟩
 clear f1;go_wp2_with fail
 go_loopg [10,11,12,13] 5 (fun gk lv cv sv iv wr=>∃ k:Nat,iv=.int .i64 (k:Int)/\k<=len/\k<=5/\5-k<=gk/\lv=.string ⟨(liB (liL P k)).toArray⟩/\cv=.int .i64 (k:Int)/\sv=.int .i64 (((liX P k).sum:Nat):Int)/\wr=w1)
 case atStart=>exact ⟨0,rfl,zy5 _,zy5 _,zyN _,rfl,rfl,rfl,rfl⟩
 case round=>
  obtain ⟨k,rfl,hk,EF,jm,rfl,rfl,rfl,rfl⟩:=hrel;have hs:=zA0 q7.o k;by_cases aj:k<len/\k<5
  ·obtain ⟨l1,l2⟩:=aj;obtain ⟨A,rfl,_,cA⟩:=lR.o k l1;have Il:=q7.o k;have D:=zab (zjb 3 (P k) (by omega) Il (by omega));have rY:=zme 3 (P k);obtain ⟨Ia,Em⟩:=zAX q7.o k;have cV:=zAK (liL P k) Em;have lp:(liL P k).length=k:=by unfold liL;rw[List.length_map,zAG]
   obtain ⟨t1,e1⟩:∃ t,t=([40,123,50,44,50,125,32]:List UInt8)++zrn 3 (P k):=⟨_,rfl⟩;obtain ⟨t2,e2⟩:∃ t,t=t1++[32]:=⟨_,rfl⟩;obtain ⟨t3,e3⟩:∃ t,t=t2++liB (liL P k):=⟨_,rfl⟩;obtain ⟨t4,e4⟩:∃ t,t=t3++[41]:=⟨_,rfl⟩;have m1:t1.length<=10:=by rw[e1];simp;omega
   have m2:t2.length<=11:=by rw[e2];simp;omega
   have m3:t3.length<=100:=by rw[e3];simp;omega
   have m4:t4.length<=101:=by rw[e4];simp;omega
   have q1:=zre e1 (by omega);have q2:=zre e2 (by omega);have q3:=zre e3 (by omega);have q4:=zre e4 (by omega);have E4:=zab (show t4=liB (liL P (k+1)) by rw[e4,e3,e2,e1];unfold liL;rw[liX,zza,liB];simp);clear e1 e2 e3 e4 m1 m2 m3 m4 Ia Em cV lp rY;go_wp2_with fail
   refine (PK.o k _).mono ?_;rintro e w2 ⟨rfl,rfl⟩;go_wp2_with fail
   refine (D.o _).mono ?_;rintro e w3 ⟨rfl,rfl⟩;go_wp2_with fail
   go_roundg (5-(k+1))
   case measure=>omega
   case rel=>exact ⟨k+1,by go_num,by omega,by omega,zyN _,by rw[E4.o],by go_num,by rw[liX,zzd];go_num,rfl⟩
  ·obtain ⟨Ia,Em⟩:=zAX q7.o k;have cV:=zAK (liL P k) Em;have lp:(liL P k).length=k:=by unfold liL;rw[List.length_map,zAG]
   obtain ⟨t1,e1⟩:∃ t,t=zAD 0++liB (liL P k):=⟨_,rfl⟩;have m1:t1.length<=300:=by rw[e1];simp[zAD];omega
   have q1:=zre e1 (by omega);have q2:=zre (a:=t1) (b:=[59]) (t:=zAC 0 (liL P k)) (by rw[e1,zAC,zzk]) (by rw[zAC];simp[zAD];omega);simp only[zAD]at q1;obtain ⟨t3,e3⟩:∃ t,t=zAD 1++liB (liL P k):=⟨_,rfl⟩;have m3:t3.length<=300:=by rw[e3];simp[zAD];omega
   have q3:=zre e3 (by omega);have q4:=zre (a:=t3) (b:=[59]) (t:=zAC 1 (liL P k)) (by rw[e3,zAC,zzk]) (by rw[zAC];simp[zAD];omega);obtain ⟨t5,e5⟩:∃ t,t=zAD 2++liB (liL P k):=⟨_,rfl⟩;have m5:t5.length<=300:=by rw[e5];simp[zAD];omega
   have q5:=zre e5 (by omega);have q6:=zre (a:=t5) (b:=[59]) (t:=zAC 2 (liL P k)) (by rw[e5,zAC,zzk]) (by rw[zAC];simp[zAD];omega);simp only[zAD]at q3 q5;have dk:=zAG P k;have A0:=zab (zAU q7.o EF (kd:=0) (x:=1) (y:=(((liX P k).sum:Nat):Int)) (by omega) (by rw[liR,(zBo _ (zAZ q7.o k) (by omega)).1]) (.inl rfl) heap fuel);have A1:=zab (zAU q7.o EF (kd:=1) (x:=1) (y:=(k:Int)) (by omega) (by rw[liR,zAV _ (by rw[List.length_map];omega),List.length_map,dk]) (.inl rfl) heap fuel);have A2:Hid (k=0->∀ W:World,Calls prog 21 #[.string ⟨(zAC 2 (liL P k)).toArray⟩,.agg #[.int .i64 3,.int .i64 0,.int .i64 0,.int .i64 0],.int .i64 heap,.int .i64 fuel] W fun e w'=>e=.returned (.bool true)/\Fr (fun _=>False) W w'):=zab fun e0=>zAU q7.o EF (by omega) (by subst e0;rfl) (.inr rfl) heap fuel
   have A3:Hid (0<k->∀ W:World,Calls prog 21 #[.string ⟨(zAC 2 (liL P k)).toArray⟩,.agg #[.int .i64 1,.int .i64 (P 0),.int .i64 0,.int .i64 0],.int .i64 heap,.int .i64 fuel] W fun e w'=>e=.returned (.bool true)/\Fr (fun _=>False) W w'):=zab fun e0=>zAU q7.o EF (by omega) (by obtain ⟨j,rfl⟩:∃ j,k=j+1:=⟨k-1,by omega⟩;exact zAT P j) (.inl rfl) heap fuel
   have iI:kd=0\/kd=1\/kd=2:=by omega
   clear e1 m1 e3 m3 e5 m5 dk Ia Em cV lp;have hx:¬ k<len\/(k<len/\k=5):=by omega
   have hz:k=0\/(0<k/\∃ A:Addr,a=some A/\A.block<wr.heap.size/\wr.cell? (A.add 0)=some (.int .i64 (g 0))):=by
    rcases Nat.eq_zero_or_pos k with e0|e0
    ·exact .inl e0
    ·exact .inr ⟨e0,lR.o 0 (by omega)⟩
   have HZ:=zab hz;clear aj hz;rcases hx with hx|⟨hx,rfl⟩
   all_goals
    go_wp2_with fail
    refine (PW.o _).mono ?_;rintro e w5 ⟨rfl,rfl⟩;rcases iI with rfl|rfl|rfl
    ·go_wp2_with fail
     refine (A0.o _).mono ?_;rintro e w6 ⟨rfl,f6⟩;have F6:=zab ((F1.o.alloc _).trans f6);clear f6;go_wp2_with fail
     go_ret
     exact ⟨rfl,F6.o⟩
    ·go_wp2_with fail
     refine (A1.o _).mono ?_;rintro e w6 ⟨rfl,f6⟩;have F6:=zab ((F1.o.alloc _).trans f6);clear f6;go_wp2_with fail
     go_ret
     exact ⟨rfl,F6.o⟩
    ·rcases HZ.o with e0|⟨e0,A,rfl,cb,cA⟩
     ·first
       |omega
       |(subst e0
         go_wp2_with fail
         refine (A2.o trivial _).mono ?_;rintro e w6 ⟨rfl,f6⟩;have F6:=zab ((F1.o.alloc _).trans f6);clear f6;go_wp2_with fail
         go_ret
         exact ⟨rfl,F6.o⟩)
     ·have hA:A.add 0=A:=by simp[Addr.add]
      rw[hA]at cA;have cB:(wr.alloc (.cells #[.int .i64 3,.int .i64 0,.int .i64 0,.int .i64 0] 35)).cell? A=some (.int .i64 (g 0)):=((zam wr _).cell cb).trans cA;clear hA;go_wp2_with fail
      refine (PK.o 0 _).mono ?_;rintro e w6 ⟨rfl,rfl⟩;clear cA cB cb;go_wp2_with fail
      refine (A3.o e0 _).mono ?_;rintro e w7 ⟨rfl,f7⟩;have F7:=zab ((F1.o.alloc _).trans f7);clear f7;go_wp2_with fail
      go_ret
      exact ⟨rfl,F7.o⟩
end Go.Proofs.YtgahgkddaljmkaaGreatDoor
