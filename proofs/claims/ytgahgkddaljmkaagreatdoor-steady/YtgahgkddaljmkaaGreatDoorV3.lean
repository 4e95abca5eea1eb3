/- Mach11 .. Mach15 -/
import Derived.Test.YtgahgkddaljmkaaGreatDoorV2
import Derived.Test.YtgahgkddaljmkaaGreatDoorV1
set_option maxRecDepth 100000
set_option maxHeartbeats 4000000
namespace Go.Proofs.YtgahgkddaljmkaaGreatDoor
open Go.RowKit
attribute [local go_sem ↓] Go.wp_at_zero Go.wp_at_succ
structure MSt where
 s:Sto
 o:Oth
 fns:List Int
structure MAt (w:World) (mb wb:Nat) (fv:Value) (m:MSt):Prop where
 sat:SAt w mb wb (zec m.o fv) m.s
 fat:zoN w mb wb m.fns fv
 fl:m.fns.length<=1000000
 fuel:m.o.fuel<=1000000000
variable {w:World}
variable {mb wb:Nat}
variable {fv:Value}
variable {m:MSt}
variable {s':Sto}
theorem MAt.fr2{w':World}(h:MAt w mb wb fv m)(hs:SAt w' mb wb (zec m.o fv) s')(f:Fr (M2 mb wb) w w'):MAt w' mb wb fv { m with s:=s' }:=⟨hs,h.fat.fr f,h.fl,h.fuel⟩
theorem MAt.drewN{w:World}{mb wb:Nat}{fv:Value}{m:MSt}(h:MAt w mb wb fv m)(n:Nat):MAt (w.drewN n) mb wb fv m:=⟨h.sat.drewN n,h.fat.fr ((Fr.refl _ _).drewN n),h.fl,h.fuel⟩
def up (k:Nat):Ending:=.panicked [{ v:=.iface 82 (.int .i64 k),recovered:=false }]
def Ends (w:World) (mb wb:Nat) (fv:Value) (r:Except Nat MSt) (e:Ending) (w':World):Prop:=
 Fr (MB mb wb fv) w w'/\match r with
 |.ok m'=>e=.returned (.tuple #[])/\MAt w' mb wb fv m'
 |.error k=>e=up k/\∃ m',MAt w' mb wb fv m'
def MSt.zdC (m:MSt) (c:Nat):Option (Except Nat MSt):=
 if (c:Int)<=(m.s.top:Int)-(m.s.free:Int) then some (.ok m) else
 match m.s.collect m.fns with
 |none=>none
 |some (fns',s')=>if (s'.top:Int)-(s'.free:Int)<(c:Int) then some (.error 4) else some (.ok { m with s:=s',fns:=fns' })
variable {s:Sto}
theorem zk0{fns fns':List Int}(hc:s.collect fns=some (fns',s')):fns'.length=fns.length:=by
 unfold Sto.collect at hc;split at hc
 ·split at hc
  ·cases hc
  ·split at hc
   ·cases hc
   ·next fns2 s2 hb2=>
    split at hc
    ·cases hc
    ·simp only[zxL,zyH]at hc;rw[<-hc.1];exact (zdS hb2).2.2.2.2
 ·cases hc
variable {c:Nat}
theorem zaV{r:Except Nat MSt}(h:MAt w mb wb fv m)(hc:m.zdC c=some r):
  Calls Tryz.prog 73 #[.pointer (some ⟨mb,0,none⟩),.int .i64 c] w fun e w'=>Ends w mb wb fv r e w':=by
 unfold MSt.zdC at hc;have CL:=zab (zme h.sat);by_cases h1:(c:Int)<=(m.s.top:Int)-(m.s.free:Int)
 ·rw[if_pos h1]at hc;obtain rfl:=zxQ hc;have HH:=zab h;clear h hc;go_enter Tryz.func73,Tryz.ntmps73
  go_wp2_with fail
  refine CL.o.mono ?_;rintro e w1 ⟨rfl,k1,hw1⟩;have H1:Hid (MAt w1 mb wb fv m):=zab (by rw[hw1];exact HH.o.drewN k1);have F1:Hid (Fr (MB mb wb fv) w w1):=zab (by rw[hw1];exact (Fr.refl _ _).drewN k1);clear hw1;go_wp2_with fail
  first|go_end0|refine bodyPost_ret (results_none rfl _ _ _) rfl ?_
  exact ⟨F1.o,rfl,H1.o⟩
 ·rw[if_neg h1]at hc;split at hc
  ·cases hc
  ·next fns2 s2 hcol=>
   have HH:=zab h;have CC:=zab (fun k:Nat=>zps (h.drewN k).sat (h.drewN k).fat hcol h.fl);have HFL:Hid (fns2.length<=1000000):=zab (by rw[zk0 hcol];exact h.fl);have HFU:=zab h.fuel;by_cases h2:(s2.top:Int)-(s2.free:Int)<(c:Int)
   ·rw[if_pos h2]at hc;obtain rfl:=zxQ hc;clear h hc hcol;go_enter Tryz.func73,Tryz.ntmps73
    go_wp2_with fail
    refine CL.o.mono ?_;rintro e w1 ⟨rfl,k1,rfl⟩;go_wp2_with fail
    refine (CC.o k1).mono ?_;rintro e w2 ⟨rfl,s2',f2',fr2⟩;have H2:Hid (MAt w2 mb wb fv ⟨s2,m.o,fns2⟩):=zab ⟨s2',f2',HFL.o,HFU.o⟩;have F2:Hid (Fr (MB mb wb fv) w w2):=zab (((Fr.refl _ _).drewN k1).trans fr2);have CL2:=zab (zme s2');clear s2' f2' fr2;go_wp2_with fail
    refine CL2.o.mono ?_;rintro e w3 ⟨rfl,k3,hw3⟩;have H3:Hid (MAt w3 mb wb fv ⟨s2,m.o,fns2⟩):=zab (by rw[hw3];exact H2.o.drewN k3);have F3:Hid (Fr (MB mb wb fv) w w3):=zab (by rw[hw3];exact F2.o.drewN k3);clear hw3;go_wp2_with fail
    refine (zb9 4 _).mono ?_;rintro e w4 ⟨rfl,rfl⟩;exact ⟨rfl,F3.o,rfl,_,H3.o⟩
   ·rw[if_neg h2]at hc;obtain rfl:=zxQ hc;clear h hc hcol;go_enter Tryz.func73,Tryz.ntmps73
    go_wp2_with fail
    refine CL.o.mono ?_;rintro e w1 ⟨rfl,k1,rfl⟩;go_wp2_with fail
    refine (CC.o k1).mono ?_;rintro e w2 ⟨rfl,s2',f2',fr2⟩;have H2:Hid (MAt w2 mb wb fv ⟨s2,m.o,fns2⟩):=zab ⟨s2',f2',HFL.o,HFU.o⟩;have F2:Hid (Fr (MB mb wb fv) w w2):=zab (((Fr.refl _ _).drewN k1).trans fr2);have CL2:=zab (zme s2');clear s2' f2' fr2;go_wp2_with fail
    refine CL2.o.mono ?_;rintro e w3 ⟨rfl,k3,hw3⟩;have H3:Hid (MAt w3 mb wb fv ⟨s2,m.o,fns2⟩):=zab (by rw[hw3];exact H2.o.drewN k3);have F3:Hid (Fr (MB mb wb fv) w w3):=zab (by rw[hw3];exact F2.o.drewN k3);clear hw3;go_wp2_with fail
    first|go_end0|refine bodyPost_ret (results_none rfl _ _ _) rfl ?_
    exact ⟨F3.o,rfl,H3.o⟩
def MSt.zsQ (m:MSt):Except Nat MSt:=if m.o.fuel=0 then .error 5 else .ok { m with o:={ m.o with fuel:=m.o.fuel-1 } }
variable {o:Oth}
theorem SAt.c9(h:SAt w mb wb (zec o fv) s):w.cell? ⟨mb,9,none⟩=some (.int .i64 o.fuel):=h.blk.cell 9
theorem SAt.zwp(h:SAt w mb wb (zec o fv) s)(v:Nat):SAt (w.setCell ⟨mb,9,none⟩ (.int .i64 v)) mb wb (zec { o with fuel:=v } fv) s:=
 ⟨h.blk.set 9 (.int .i64 v),h.zey.other _ _ h.ne.symm,h.ne,h.len,h.half,h.low,h.free,h.top⟩
theorem SAt.zgx(h:SAt w mb wb (zec o fv) s)(v:Int):SAt (w.setCell ⟨mb,10,none⟩ (.int .i64 v)) mb wb (zec { o with next:=v } fv) s:=
 ⟨h.blk.set 10 (.int .i64 v),h.zey.other _ _ h.ne.symm,h.ne,h.len,h.half,h.low,h.free,h.top⟩
theorem SAt.zuD(h:SAt w mb wb (zec o fv) s)(v:Int):SAt (w.setCell ⟨mb,11,none⟩ (.int .i64 v)) mb wb (zec { o with below:=v } fv) s:=
 ⟨h.blk.set 11 (.int .i64 v),h.zey.other _ _ h.ne.symm,h.ne,h.len,h.half,h.low,h.free,h.top⟩
theorem zmn(h:MAt w mb wb fv m):
  Calls Tryz.prog 80 #[.pointer (some ⟨mb,0,none⟩)] w fun e w'=>Ends w mb wb fv m.zsQ e w':=by
 have c9:=h.sat.c9;have f9:=h.sat.blk.frozen 9;unfold MSt.zsQ;by_cases h0:m.o.fuel=0
 ·rw[if_pos h0];rw[h0]at c9;have HH:=zab h;clear h h0;go_enter Tryz.func80,Tryz.ntmps80
  go_wp2_with fail
  refine (zb9 5 _).mono ?_;rintro e w4 ⟨rfl,rfl⟩;exact ⟨rfl,Fr.refl _ _,rfl,_,HH.o⟩
 ·rw[if_neg h0];obtain ⟨k,hk⟩:∃ k,m.o.fuel=k+1:=⟨m.o.fuel-1,by omega⟩;have hkb:(k:Int)+1<=1000000000:=by have:=h.fuel;omega
  rw[hk]at c9;have HB:Hid (SAt (w.setCell ⟨mb,9,none⟩ (.int .i64 k)) mb wb (zec { m.o with fuel:=k } fv) m.s):=zab (h.sat.zwp k);have HE:Hid (m.o.fuel-1=k):=zab (by omega);have HF:=zab h.fat;have HFL:=zab h.fl;have hne:(((k:Int)+1) == 0)=false:=by rw[beq_eq_false_iff_ne];omega
  simp only[zym,Int.natCast_one]at c9;clear h h0 hk;go_enter Tryz.func80,Tryz.ntmps80
  go_wp2_with fail
  first|go_end0|refine bodyPost_ret (results_none rfl _ _ _) rfl ?_
  have fr:Fr (M2 mb wb) w (w.setCell ⟨mb,9,none⟩ (.int .i64 k)):=(Fr.refl _ _).set _ _ (.inl (.inl rfl));refine ⟨fr.zcW fv,rfl,?_⟩;rw[HE.o];exact ⟨HB.o,HF.o.fr fr,HFL.o,by show k<=1000000000;omega⟩
theorem SAt.c5(h:SAt w mb wb (zec o fv) s):w.cell? ⟨mb,5,none⟩=some o.pb:=h.blk.cell 5
theorem SAt.c10(h:SAt w mb wb (zec o fv) s):w.cell? ⟨mb,10,none⟩=some (.int .i64 o.next):=h.blk.cell 10
theorem SAt.c11(h:SAt w mb wb (zec o fv) s):w.cell? ⟨mb,11,none⟩=some (.int .i64 o.below):=h.blk.cell 11
theorem zla(h:MAt w mb wb fv m){b:Nat}(hb:m.o.below=b)(hb1:b<=2000000):
  Calls Tryz.prog 207 #[.pointer (some ⟨mb,0,none⟩)] w fun e w'=>e=.returned (.int .i64 ((m.s.low:Int)+(m.s.half:Int)-(b:Int)))/\∃ n,w'=w.drewN n:=by
 have c11:=h.sat.c11;rw[hb]at c11;have b1:=h.sat.half;have b2:=h.sat.low;have CE:=zab (fun n:Nat=>zhP (h.sat.drewN n));simp only[zym]at CE;clear h hb;go_enter Tryz.func207,Tryz.ntmps207
 go_wp2_with fail
 go_quiet ((go_at_call 78;exact Calls.quiet_of (CE.o _)))
 go_wp2_with fail
 go_ret
 exact ⟨by simp,_,rfl⟩
def MSt.slot (m:MSt) (k:Nat):Option Nat:=if 0<=m.o.below/\m.o.below+1+(k:Int)<=(m.s.low:Int)+(m.s.half:Int) then some ((m.s.low:Int)+(m.s.half:Int)-m.o.below-1-(k:Int)).toNat else none
variable {k:Nat}
theorem zp2{i:Nat}(h:m.slot k=some i):∃ b:Nat,m.o.below=b/\b+1+k+i=m.s.low+m.s.half:=by
 unfold MSt.slot at h;split at h
 ·next hg=>
  obtain rfl:=zxQ h;exact ⟨m.o.below.toNat,by omega,by omega⟩
 ·cases h
theorem zqf(h:MAt w mb wb fv m){i:Nat}(hk:m.slot k=some i):
  Calls Tryz.prog 131 #[.pointer (some ⟨mb,0,none⟩),.int .i64 k] w fun e w'=>e=.returned (.int .i64 i)/\∃ n,w'=w.drewN n:=by
 obtain ⟨b,hb,hs⟩:=zp2 hk;have b1:=h.sat.half;have b2:=h.sat.low;have CB:=zab (zla h hb (by omega));have he:(m.s.low:Int)+(m.s.half:Int)-(b:Int)=1+(k:Int)+(i:Int):=by omega
 rw[he]at CB;have b3:(k:Int)+(i:Int)<=2000000:=by omega
 clear h hk hb hs he b1 b2;go_enter Tryz.func131,Tryz.ntmps131
 go_wp2_with fail
 refine CB.o.mono ?_;rintro e w1 ⟨rfl,n,rfl⟩;go_wp2_with fail
 go_ret
 exact ⟨zeS (by omega),_,rfl⟩
def MSt.numberAt (m:MSt) (d:Nat):Option (Except Nat Int):=
 match m.s.ws[m.s.top+d]? with
 |none=>none
 |some x=>if x<0 then none else
  match m.s.ws[x.toNat]? with
  |none=>none
  |some y=>if y<0\/9223372036854775808<=y then none else
   if y%16=0 then
    match m.s.ws[x.toNat+1]? with
    |none=>none
    |some v=>some (.ok v)
   else some (.error 3)
def zv9 (r:Except Nat Int) (e:Ending):Prop:=
 match r with
 |.ok v=>e=.returned (.int .i64 v)
 |.error k=>e=up k
theorem zaD(h:MAt w mb wb fv m){d:Nat}{r:Except Nat Int}(hr:m.numberAt d=some r):
  Calls Tryz.prog 140 #[.pointer (some ⟨mb,0,none⟩),.int .i64 d] w fun e w'=>(∃ n,w'=w.drewN n)/\zv9 r e:=by
 unfold MSt.numberAt at hr;split at hr
 ·cases hr
 ·next x hx=>
  split at hr
  ·cases hr
  ·next hx0=>
   split at hr
   ·cases hr
   ·next y hy=>
    split at hr
    ·cases hr
    ·next hy0=>
     obtain ⟨a,rfl⟩:∃ a:Nat,x=a:=⟨x.toNat,by omega⟩;simp only[zxY]at hy hr;have CA:=zab (zaz h.sat d _ hx);have hal:=(zxH.1 hy).1;have hal':(a:Int)<(m.s.ws.length:Int):=by omega
     have hlen:=h.sat.len;have HH:=zab h;have CK:=zab (fun W:World=>za2 y W (by omega) (by omega));have HY:=zab hy;clear h hx hx0 hy;by_cases hk:y%16=0
     ·rw[if_pos hk]at hr;split at hr
      ·cases hr
      ·next v hv=>
       obtain rfl:=zxQ hr;rw[hk]at CK;have hal2:=(zxH.1 hv).1;have hal2':(a:Int)+1<(m.s.ws.length:Int):=by omega
       have HV:=zab hv;clear hr hk hv hy0;go_enter Tryz.func140,Tryz.ntmps140
       go_wp2_with fail
       refine CA.o.mono ?_;rintro e w1 ⟨rfl,n,hw1⟩;have H1:Hid (MAt w1 mb wb fv m):=zab (by rw[hw1];exact HH.o.drewN n);have HW:=zab hw1;clear hw1;have c0:=H1.o.sat.c0;have ca:=H1.o.sat.word HY.o;have cb:=H1.o.sat.word HV.o;go_wp2_with fail
       refine (CK.o _).mono ?_;rintro e w2 ⟨rfl,rfl⟩;go_wp2_with fail
       go_ret
       exact ⟨⟨n,HW.o⟩,rfl⟩
     ·rw[if_neg hk]at hr;obtain rfl:=zxQ hr;have hkb:(y%16 == 0)=false:=by rw[beq_eq_false_iff_ne];exact hk
      have hk0:0<=y%16:=by omega
      have hk1:y%16<16:=by omega
      generalize y%16=z at CK hk hkb hk0 hk1;clear hr hk hy0;go_enter Tryz.func140,Tryz.ntmps140
      go_wp2_with fail
      refine CA.o.mono ?_;rintro e w1 ⟨rfl,n,hw1⟩;have H1:Hid (MAt w1 mb wb fv m):=zab (by rw[hw1];exact HH.o.drewN n);have HW:=zab hw1;clear hw1;have c0:=H1.o.sat.c0;have ca:=H1.o.sat.word HY.o;go_wp2_with fail
      refine (CK.o _).mono ?_;rintro e w2 ⟨rfl,rfl⟩;go_wp2_with fail
      refine (zb9 3 _).mono ?_;rintro e w4 ⟨rfl,rfl⟩;exact ⟨rfl,⟨n,HW.o⟩,rfl⟩
def Sto.push (s:Sto) (x:Int):Option Sto:=if 1<=s.top/\s.top<=s.ws.length then some { s with top:=s.top-1,ws:=s.ws.set (s.top-1) x } else none
def Sto.node (s:Sto) (hd:Int) (xs:List Int):Option Sto:=if s.free+1+xs.length<=s.ws.length then some { s with free:=s.free+1+xs.length,ws:=Go.splice (s.ws.set s.free hd) (s.free+1) xs } else none
def Sto.pop (s:Sto) (c:Nat):Option Sto:=if s.top+c<=1000000 then some { s with top:=s.top+c } else none
theorem Sto.zb3{w:World}{mb wb:Nat}{tl:List Value}{s s':Sto}(h:SAt w mb wb tl s){x:Int}(hx:s.push x=some s'):
  Calls Tryz.prog 76 #[.pointer (some ⟨mb,0,none⟩),.int .i64 x] w fun e w'=>e=.returned (.tuple #[])/\SAt w' mb wb tl s'/\Fr (M2 mb wb) w w':=by
 unfold Sto.push at hx;split at hx
 ·next hg=>
  obtain rfl:=zxQ hx;exact Go.Proofs.YtgahgkddaljmkaaGreatDoor.zb3 h x hg.1 hg.2
 ·cases hx
theorem Sto.zbK{w:World}{mb wb:Nat}{tl:List Value}{s s':Sto}(h:SAt w mb wb tl s){c:Nat}(hx:s.pop c=some s'):
  Calls Tryz.prog 137 #[.pointer (some ⟨mb,0,none⟩),.int .i64 c] w fun e w'=>e=.returned (.tuple #[])/\SAt w' mb wb tl s'/\Fr (M2 mb wb) w w':=by
 unfold Sto.pop at hx;split at hx
 ·next hg=>
  obtain rfl:=zxQ hx;exact Go.Proofs.YtgahgkddaljmkaaGreatDoor.zbK h c hg
 ·cases hx
theorem Sto.zd7{w:World}{mb wb:Nat}{tl:List Value}{s s':Sto}(h:SAt w mb wb tl s){hd:Int}{xs:List Int}{sp:Option Addr}{cp:Nat}(hx:s.node hd xs=some s')(hsrc:0<xs.length->∃ ad,sp=some ad/\∀ (W:World),SAt W mb wb tl { s with ws:=s.ws.set s.free hd }->Fr (M2 mb wb) w W->∀ (j:Nat) x,xs[j]?=some x->W.cell? (ad.add j)=some (.int .i64 x)):
  Calls Tryz.prog 74 #[.pointer (some ⟨mb,0,none⟩),.int .i64 hd,.slice sp xs.length cp] w fun e w'=>e=.returned (.int .i64 s.free)/\SAt w' mb wb tl s'/\Fr (M2 mb wb) w w':=by
 unfold Sto.node at hx;split at hx
 ·next hg=>
  obtain rfl:=zxQ hx;exact Go.Proofs.YtgahgkddaljmkaaGreatDoor.zd7 h hd xs sp cp hg hsrc
 ·cases hx
variable {tl:List Value}
variable {hd:Int}
theorem Sto.zvB(h:SAt w mb wb tl s){v:Int}(hx:s.node hd [v]=some s'):
  Calls Tryz.prog 74 #[.pointer (some ⟨mb,0,none⟩),.int .i64 hd,.slice (some ⟨w.heap.size,0,none⟩) 1 1] (w.alloc (Obj.cells #[.int .i64 v] 2)).drew fun e w'=>e=.returned (.int .i64 s.free)/\SAt w' mb wb tl s'/\Fr (M2 mb wb) w w':=by
 have f0:Fr (M2 mb wb) w (w.alloc (Obj.cells #[.int .i64 v] 2)).drew:=((Fr.refl _ _).alloc _).drew;have h0:=(h.below (zam w (Obj.cells #[.int .i64 v] 2))).drew;have hn:Blk (w.alloc (Obj.cells #[.int .i64 v] 2)).drew w.heap.size [.int .i64 v] 2:=(Blk.new w [.int .i64 v] 2).drew;have hm:=h.blk.lt;have hw:=h.zey.lt;refine (Sto.zd7 (sp:=some ⟨w.heap.size,0,none⟩) (cp:=1) h0 hx (fun _=>⟨_,rfl,fun W _ fW j x hj=>?_⟩)).mono ?_
 ·have hb:=Fr.blk hn fW (by unfold M2;omega)
  match j,hj with
  |0,hj=>
   simp only[zyh,zxL]at hj;subst hj;rw[zbb];exact hb.cell 0
 ·rintro e w' ⟨rfl,q1,q2⟩;exact ⟨rfl,q1,f0.trans q2⟩
def Sto.words (s:Sto) (o c:Nat):List Int:=(s.ws.drop o).take c
theorem Sto.zcJ{o:Nat}(h:o+c<=s.ws.length):(s.words o c).length=c:=by unfold Sto.words;rw[zyb,zyp];omega
theorem Sto.zdM{o j:Nat}{x:Int}(h:(s.words o c)[j]?=some x):j<c/\s.ws[o+j]?=some x:=by
 unfold Sto.words at h;rw[zyq]at h;split at h
 ·next hj=>rw[zyr]at h;exact ⟨hj,h⟩
 ·cases h
variable {cp:Nat}
theorem Sto.zqr(h:SAt w mb wb tl s){o o':Nat}(hx:s.node hd (s.words o c)=some s')(hf:s.free<o\/o+c<=s.free)(ho:o+c<=s.ws.length)(ho':0<c->o'=o):
  Calls Tryz.prog 74 #[.pointer (some ⟨mb,0,none⟩),.int .i64 hd,.slice (some ⟨wb,o',none⟩) c cp] w fun e w'=>e=.returned (.int .i64 s.free)/\SAt w' mb wb tl s'/\Fr (M2 mb wb) w w':=by
 have:=Sto.zd7 (sp:=some ⟨wb,o',none⟩) (cp:=cp) h hx (fun h0=>⟨_,rfl,fun W hW _ j x hj=>by
  rw[Sto.zcJ ho]at h0;obtain ⟨hjc,hj2⟩:=Sto.zdM hj;rw[zbb,ho' h0];refine hW.word ?_;simp only;rw[zzi (by omega)];exact hj2⟩)
 rw[Sto.zcJ ho]at this;exact this
def Sto.zd6 (s:Sto) (xs:List Int):Option Sto:=if xs.length<=s.top/\s.top<=s.ws.length then some { s with top:=s.top-xs.length,ws:=Go.splice s.ws (s.top-xs.length) xs } else none
theorem Sto.zeo(h:SAt w mb wb tl s){xs:List Int}{o o':Nat}(hx:s.zd6 xs=some s')(hxs:xs=s.words o c)(ho:o+c<=s.ws.length)(ho':0<c->o'=o):
  Calls Tryz.prog 201 #[.pointer (some ⟨mb,0,none⟩),.slice (some ⟨wb,o',none⟩) c cp] w fun e w'=>e=.returned (.tuple #[])/\SAt w' mb wb tl s'/\Fr (M2 mb wb) w w':=by
 subst hxs;unfold Sto.zd6 at hx;split at hx
 ·next hg=>
  obtain rfl:=zxQ hx;have:=zpr h (s.words o c) (some ⟨wb,o',none⟩) cp (fun h0=>⟨_,rfl,fun W hW _ j x hj=>by
   rw[Sto.zcJ ho]at h0;obtain ⟨hjc,hj2⟩:=Sto.zdM hj;rw[zbb,ho' h0];exact hW.word hj2⟩) hg.1 hg.2
  simp only[Sto.zcJ ho]at this ⊢;exact this
 ·cases hx
def aft (r:Option (Except Nat MSt)) (f:MSt->Option (Except Nat MSt)):Option (Except Nat MSt):=
 match r with
 |none=>none
 |some (.error k)=>some (.error k)
 |some (.ok m)=>f m
def MSt.put (m:MSt) (s:Option Sto):Option (Except Nat MSt):=s.map fun q=>.ok { m with s:=q }
def MSt.zau (m:MSt) (v:Int):Option (Except Nat MSt):=aft (m.zdC 3) fun m1=>m1.put ((m1.s.node 0 [v]).bind fun s=>s.push m1.s.free)
theorem hdr0:Hd 0 0 0=0:=rfl
theorem zbZ{r:Except Nat MSt}(h:MAt w mb wb fv m){v:Int}(hc:m.zau v=some r):
  Calls Tryz.prog 132 #[.pointer (some ⟨mb,0,none⟩),.int .i64 v] w fun e w'=>Ends w mb wb fv r e w':=by
 unfold MSt.zau aft at hc;split at hc
 ·cases hc
 ·next k hn=>
  obtain rfl:=zxQ hc;have CN:=zab (zaV h hn);clear h hn hc;go_enter Tryz.func132,Tryz.ntmps132
  go_wp2_with fail
  refine CN.o.mono ?_;rintro e w1 ⟨f1,rfl,h1⟩;exact ⟨rfl,f1,rfl,h1⟩
 ·next m1 hn=>
  have CN:=zab (zaV h hn);simp only[MSt.put,zxT,zxM]at hc;obtain ⟨s3,⟨s2,hnode,hpush⟩,rfl⟩:=hc;have HN:=zab hnode;have HPu:=zab hpush;clear h hn hnode hpush;go_enter Tryz.func132,Tryz.ntmps132
  go_wp2_with fail
  refine CN.o.mono ?_;rintro e w1 ⟨f1,rfl,h1⟩;have F1:=zab f1;have H1:=zab h1;clear f1 h1 CN;go_wp2_with fail
  go_region_held3 (fun _=>True) (trivial) (first
   |(go_at_call 75;refine (zbt 0 0 0 _ (by omega) (by omega) (by omega)).mono ?_;rintro e w2 ⟨rfl,rfl⟩;rw[hdr0])
   |(go_at_call 74;refine (Sto.zvB H1.o.sat HN.o).mono ?_;rintro e w3 ⟨rfl,h3,f3⟩;have H3:=zab h3;have F3:=zab f3;clear h3 f3)
   |(go_at_call 76;refine (Sto.zb3 H3.o HPu.o).mono ?_;rintro e w4 ⟨rfl,h4,f4⟩;have H4:=zab h4;have F4:=zab (F3.o.trans f4);clear h4 f4))
  all_goals
   go_wp2_with fail
   first|go_end0|refine bodyPost_ret (results_none rfl _ _ _) rfl ?_
   exact ⟨F1.o.trans (F4.o.zcW fv),rfl,H1.o.fr2 H4.o F4.o⟩
def MSt.build (m:MSt) (hd:Int) (c:Nat):Option (Except Nat MSt):=aft (m.zdC (c+2)) fun m1=>
 if m1.s.free<m1.s.top/\m1.s.top+c<=m1.s.ws.length then m1.put ((m1.s.node hd (m1.s.words m1.s.top c)).bind fun s=>(s.pop c).bind fun q=>q.push m1.s.free) else none
theorem zhv{r:Except Nat MSt}(h:MAt w mb wb fv m)(hcb:c<=1000000)(hc:m.build hd c=some r):
  Calls Tryz.prog 133 #[.pointer (some ⟨mb,0,none⟩),.int .i64 hd,.int .i64 c] w fun e w'=>Ends w mb wb fv r e w':=by
 unfold MSt.build aft at hc;split at hc
 ·cases hc
 ·next k hn=>
  obtain rfl:=zxQ hc;have CN:=zab (zaV h hn);simp only[zym,zyF]at CN;clear h hn hc;go_enter Tryz.func133,Tryz.ntmps133
  go_wp2_with fail
  refine CN.o.mono ?_;rintro e w1 ⟨f1,rfl,h1⟩;exact ⟨rfl,f1,rfl,h1⟩
 ·next m1 hn=>
  have CN:=zab (zaV h hn);simp only[zym,zyF]at CN;dsimp only at hc;split at hc
  ·next hg=>
   simp only[MSt.put,zxT,zxM]at hc;obtain ⟨s4,⟨s2,hnode,s3,hpop,hpush⟩,rfl⟩:=hc;have HN:=zab hnode;have HPo:=zab hpop;have HPu:=zab hpush;have HG:=zab hg;clear h hn hnode hpop hpush hg;go_enter Tryz.func133,Tryz.ntmps133
   go_wp2_with fail
   refine CN.o.mono ?_;rintro e w1 ⟨f1,rfl,h1⟩;have F1:=zab f1;have H1:=zab h1;clear f1 h1 CN;go_wp2_with fail
   go_region_held3 (fun _=>True) (trivial) (first
    |(go_at_call 136;refine (ze9 (H1.o.sat.drew) c HG.o.2).mono ?_;rintro e w2 ⟨rfl,k2,hw2⟩;have H2:Hid (SAt w2 mb wb (zec m1.o fv) m1.s):=zab (by rw[hw2];exact H1.o.sat.drew.drewN k2);have F2:Hid (Fr (M2 mb wb) w1 w2):=zab (by rw[hw2];exact (Fr.refl _ _).drew.drewN k2);clear hw2)
    |(go_at_call 74;refine (Sto.zqr H2.o HN.o (.inl HG.o.1) HG.o.2 (fun h0=>zbS (by have:=HG.o.2;omega))).mono ?_;rintro e w3 ⟨rfl,h3,f3⟩;have H3:=zab h3;have F3:=zab (F2.o.trans f3);clear h3 f3))
   all_goals
    go_wp2_with fail
    refine (Sto.zbK H3.o HPo.o).mono ?_;rintro e w4 ⟨rfl,h4,f4⟩;have H4:=zab h4;have F4:=zab (F3.o.trans f4);clear h4 f4;go_wp2_with fail
    refine (Sto.zb3 H4.o HPu.o).mono ?_;rintro e w5 ⟨rfl,h5,f5⟩;have H5:=zab h5;have F5:=zab (F4.o.trans f5);clear h5 f5;go_wp2_with fail
    first|go_end0|refine bodyPost_ret (results_none rfl _ _ _) rfl ?_
    exact ⟨F1.o.trans (F5.o.zcW fv),rfl,H1.o.fr2 H5.o F5.o⟩
  ·cases hc
def MSt.zcP (m:MSt) (b:Bool):Option (Except Nat MSt):=m.build (Hd 1 (if b then 2 else 1) 0) 0
theorem zkW{r:Except Nat MSt}(h:MAt w mb wb fv m)(hc:m.build (Hd 1 2 0) 0=some r):
  Calls Tryz.prog 208 #[.pointer (some ⟨mb,0,none⟩),.bool true] w fun e w'=>Ends w mb wb fv r e w':=by
 have CB:=zab (zhv h (by omega) hc);have CH:=zab (fun W:World=>zbt 1 2 0 W (by omega) (by omega) (by omega));generalize Hd 1 2 0=z at CB CH;clear h hc;go_enter Tryz.func208,Tryz.ntmps208
 go_wp2_with fail
 refine (CH.o _).mono ?_;rintro e w2 ⟨rfl,rfl⟩;go_wp2_with fail
 refine CB.o.mono ?_;rintro e w3 h3;cases r with
 |error k=>
  obtain ⟨f3,rfl,h3⟩:=h3;exact ⟨rfl,f3,rfl,h3⟩
 |ok m3=>
  obtain ⟨f3,rfl,h3⟩:=h3;have H3:=zab h3;clear h3;go_wp2_with fail
  first|go_end0|refine bodyPost_ret (results_none rfl _ _ _) rfl ?_
  exact ⟨f3,rfl,H3.o⟩
theorem zjl{r:Except Nat MSt}(h:MAt w mb wb fv m)(hc:m.build (Hd 1 1 0) 0=some r):
  Calls Tryz.prog 208 #[.pointer (some ⟨mb,0,none⟩),.bool false] w fun e w'=>Ends w mb wb fv r e w':=by
 have CB:=zab (zhv h (by omega) hc);have CH:=zab (fun W:World=>zbt 1 1 0 W (by omega) (by omega) (by omega));generalize Hd 1 1 0=z at CB CH;clear h hc;go_enter Tryz.func208,Tryz.ntmps208
 go_wp2_with fail
 refine (CH.o _).mono ?_;rintro e w2 ⟨rfl,rfl⟩;go_wp2_with fail
 refine CB.o.mono ?_;rintro e w3 h3;cases r with
 |error k=>
  obtain ⟨f3,rfl,h3⟩:=h3;exact ⟨rfl,f3,rfl,h3⟩
 |ok m3=>
  obtain ⟨f3,rfl,h3⟩:=h3;have H3:=zab h3;clear h3;go_wp2_with fail
  first|go_end0|refine bodyPost_ret (results_none rfl _ _ _) rfl ?_
  exact ⟨f3,rfl,H3.o⟩
theorem zha{r:Except Nat MSt}(h:MAt w mb wb fv m){b:Bool}(hc:m.zcP b=some r):
  Calls Tryz.prog 208 #[.pointer (some ⟨mb,0,none⟩),.bool b] w fun e w'=>Ends w mb wb fv r e w':=by
 cases b
 ·exact zjl h hc
 ·exact zkW h hc
def MSt.calc (m:MSt) (sg:ByteArray) (l r:Int):Option (Except Nat MSt):=
 if sg=⟨#[43]⟩ then m.zau (IntKind.i64.wrap (l+r)) else
 if sg=⟨#[45]⟩ then m.zau (IntKind.i64.wrap (l-r)) else
 if sg=⟨#[42]⟩ then m.zau (IntKind.i64.wrap (l*r)) else
 if sg=⟨#[47]⟩ then (if r=0 then some (.error 3) else m.zau (IntKind.i64.wrap (Int.tdiv l r))) else
 if sg=⟨#[60]⟩ then m.zcP (decide (l<r)) else
 if sg=⟨#[61,61]⟩ then m.zcP (decide (l=r)) else none
def MSt.compute (m:MSt) (sg:ByteArray):Option (Except Nat MSt):=
 match m.numberAt 0 with
 |none=>none
 |some (.error k)=>some (.error k)
 |some (.ok r)=>
  match m.numberAt 1 with
  |none=>none
  |some (.error k)=>some (.error k)
  |some (.ok l)=>
   match m.s.pop 2 with
   |none=>none
   |some s1=>MSt.calc { m with s:=s1 } sg l r
variable {l r:Int}
variable {s1:Sto}
variable {res:Except Nat MSt}
theorem zoT(h:MAt w mb wb fv m)(hr:m.numberAt 0=some (.ok r))(hl:m.numberAt 1=some (.ok l))(hp:m.s.pop 2=some s1)(hc:MSt.zau ⟨s1,m.o,m.fns⟩ (IntKind.i64.wrap (l+r))=some res):
  Calls Tryz.prog 141 #[.pointer (some ⟨mb,0,none⟩),.string ⟨#[43]⟩] w fun e w'=>Ends w mb wb fv res e w':=by
 obtain ⟨z,hz⟩:∃ z,IntKind.i64.wrap (l+r)=z:=⟨_,rfl⟩
 try rw[hz]at hc
 have HR:=zab hr;have HL:=zab hl;have HP:=zab hp;have HH:=zab h;have HC:=zab hc;clear h hr hl hp hc;go_enter Tryz.func141,Tryz.ntmps141
 go_wp2_with fail
 refine (zaD (d:=0) HH.o HR.o).mono ?_;rintro e w1 ⟨⟨n1,hw1⟩,rfl⟩;have H1:Hid (MAt w1 mb wb fv m):=zab (by rw[hw1];exact HH.o.drewN n1);have F1:Hid (Fr (MB mb wb fv) w w1):=zab (by rw[hw1];exact (Fr.refl _ _).drewN n1);clear hw1;go_wp2_with fail
 refine (zaD (d:=1) H1.o HL.o).mono ?_;rintro e w2 ⟨⟨n2,hw2⟩,rfl⟩;have H2:Hid (MAt w2 mb wb fv m):=zab (by rw[hw2];exact H1.o.drewN n2);have F2:Hid (Fr (MB mb wb fv) w w2):=zab (by rw[hw2];exact F1.o.drewN n2);clear hw2;go_wp2_with fail
 refine (Sto.zbK (c:=2) H2.o.sat HP.o).mono ?_;rintro e w3 ⟨rfl,h3,f3⟩;have H3:Hid (MAt w3 mb wb fv { m with s:=s1 }):=zab (H2.o.fr2 h3 f3);have F3:Hid (Fr (MB mb wb fv) w w3):=zab (F2.o.trans (f3.zcW fv));clear h3 f3;go_wp2_with fail
 refine (zbZ H3.o HC.o).mono ?_;rintro e w4 h4;cases res with
 |error k=>
  obtain ⟨f4,rfl,h4⟩:=h4;exact ⟨rfl,F3.o.trans f4,rfl,h4⟩
 |ok m4=>
  obtain ⟨f4,rfl,h4⟩:=h4;have H4:=zab h4;clear h4;go_wp2_with fail
  first|go_end0|refine bodyPost_ret (results_none rfl _ _ _) rfl ?_
  exact ⟨F3.o.trans f4,rfl,H4.o⟩
theorem zpn(h:MAt w mb wb fv m)(hr:m.numberAt 0=some (.ok r))(hl:m.numberAt 1=some (.ok l))(hp:m.s.pop 2=some s1)(hc:MSt.zau ⟨s1,m.o,m.fns⟩ (IntKind.i64.wrap (l-r))=some res):
  Calls Tryz.prog 141 #[.pointer (some ⟨mb,0,none⟩),.string ⟨#[45]⟩] w fun e w'=>Ends w mb wb fv res e w':=by
 obtain ⟨z,hz⟩:∃ z,IntKind.i64.wrap (l-r)=z:=⟨_,rfl⟩
 try rw[hz]at hc
 have HR:=zab hr;have HL:=zab hl;have HP:=zab hp;have HH:=zab h;have HC:=zab hc;clear h hr hl hp hc;go_enter Tryz.func141,Tryz.ntmps141
 go_wp2_with fail
 refine (zaD (d:=0) HH.o HR.o).mono ?_;rintro e w1 ⟨⟨n1,hw1⟩,rfl⟩;have H1:Hid (MAt w1 mb wb fv m):=zab (by rw[hw1];exact HH.o.drewN n1);have F1:Hid (Fr (MB mb wb fv) w w1):=zab (by rw[hw1];exact (Fr.refl _ _).drewN n1);clear hw1;go_wp2_with fail
 refine (zaD (d:=1) H1.o HL.o).mono ?_;rintro e w2 ⟨⟨n2,hw2⟩,rfl⟩;have H2:Hid (MAt w2 mb wb fv m):=zab (by rw[hw2];exact H1.o.drewN n2);have F2:Hid (Fr (MB mb wb fv) w w2):=zab (by rw[hw2];exact F1.o.drewN n2);clear hw2;go_wp2_with fail
 refine (Sto.zbK (c:=2) H2.o.sat HP.o).mono ?_;rintro e w3 ⟨rfl,h3,f3⟩;have H3:Hid (MAt w3 mb wb fv { m with s:=s1 }):=zab (H2.o.fr2 h3 f3);have F3:Hid (Fr (MB mb wb fv) w w3):=zab (F2.o.trans (f3.zcW fv));clear h3 f3;go_wp2_with fail
 refine (zbZ H3.o HC.o).mono ?_;rintro e w4 h4;cases res with
 |error k=>
  obtain ⟨f4,rfl,h4⟩:=h4;exact ⟨rfl,F3.o.trans f4,rfl,h4⟩
 |ok m4=>
  obtain ⟨f4,rfl,h4⟩:=h4;have H4:=zab h4;clear h4;go_wp2_with fail
  first|go_end0|refine bodyPost_ret (results_none rfl _ _ _) rfl ?_
  exact ⟨F3.o.trans f4,rfl,H4.o⟩
theorem zpp(h:MAt w mb wb fv m)(hr:m.numberAt 0=some (.ok r))(hl:m.numberAt 1=some (.ok l))(hp:m.s.pop 2=some s1)(hc:MSt.zau ⟨s1,m.o,m.fns⟩ (IntKind.i64.wrap (l*r))=some res):
  Calls Tryz.prog 141 #[.pointer (some ⟨mb,0,none⟩),.string ⟨#[42]⟩] w fun e w'=>Ends w mb wb fv res e w':=by
 obtain ⟨z,hz⟩:∃ z,IntKind.i64.wrap (l*r)=z:=⟨_,rfl⟩
 try rw[hz]at hc
 have HR:=zab hr;have HL:=zab hl;have HP:=zab hp;have HH:=zab h;have HC:=zab hc;clear h hr hl hp hc;go_enter Tryz.func141,Tryz.ntmps141
 go_wp2_with fail
 refine (zaD (d:=0) HH.o HR.o).mono ?_;rintro e w1 ⟨⟨n1,hw1⟩,rfl⟩;have H1:Hid (MAt w1 mb wb fv m):=zab (by rw[hw1];exact HH.o.drewN n1);have F1:Hid (Fr (MB mb wb fv) w w1):=zab (by rw[hw1];exact (Fr.refl _ _).drewN n1);clear hw1;go_wp2_with fail
 refine (zaD (d:=1) H1.o HL.o).mono ?_;rintro e w2 ⟨⟨n2,hw2⟩,rfl⟩;have H2:Hid (MAt w2 mb wb fv m):=zab (by rw[hw2];exact H1.o.drewN n2);have F2:Hid (Fr (MB mb wb fv) w w2):=zab (by rw[hw2];exact F1.o.drewN n2);clear hw2;go_wp2_with fail
 refine (Sto.zbK (c:=2) H2.o.sat HP.o).mono ?_;rintro e w3 ⟨rfl,h3,f3⟩;have H3:Hid (MAt w3 mb wb fv { m with s:=s1 }):=zab (H2.o.fr2 h3 f3);have F3:Hid (Fr (MB mb wb fv) w w3):=zab (F2.o.trans (f3.zcW fv));clear h3 f3;go_wp2_with fail
 refine (zbZ H3.o HC.o).mono ?_;rintro e w4 h4;cases res with
 |error k=>
  obtain ⟨f4,rfl,h4⟩:=h4;exact ⟨rfl,F3.o.trans f4,rfl,h4⟩
 |ok m4=>
  obtain ⟨f4,rfl,h4⟩:=h4;have H4:=zab h4;clear h4;go_wp2_with fail
  first|go_end0|refine bodyPost_ret (results_none rfl _ _ _) rfl ?_
  exact ⟨F3.o.trans f4,rfl,H4.o⟩
theorem zm9(h:MAt w mb wb fv m)(hr:m.numberAt 0=some (.ok r))(hl:m.numberAt 1=some (.ok l))(hp:m.s.pop 2=some s1)(hc:MSt.zcP ⟨s1,m.o,m.fns⟩ (decide (l<r))=some res):
  Calls Tryz.prog 141 #[.pointer (some ⟨mb,0,none⟩),.string ⟨#[60]⟩] w fun e w'=>Ends w mb wb fv res e w':=by
 obtain ⟨z,hz⟩:∃ z,IntKind.i64.wrap l=z:=⟨_,rfl⟩
 try rw[hz]at hc
 have HR:=zab hr;have HL:=zab hl;have HP:=zab hp;have HH:=zab h;have HC:=zab hc;clear h hr hl hp hc;go_enter Tryz.func141,Tryz.ntmps141
 go_wp2_with fail
 refine (zaD (d:=0) HH.o HR.o).mono ?_;rintro e w1 ⟨⟨n1,hw1⟩,rfl⟩;have H1:Hid (MAt w1 mb wb fv m):=zab (by rw[hw1];exact HH.o.drewN n1);have F1:Hid (Fr (MB mb wb fv) w w1):=zab (by rw[hw1];exact (Fr.refl _ _).drewN n1);clear hw1;go_wp2_with fail
 refine (zaD (d:=1) H1.o HL.o).mono ?_;rintro e w2 ⟨⟨n2,hw2⟩,rfl⟩;have H2:Hid (MAt w2 mb wb fv m):=zab (by rw[hw2];exact H1.o.drewN n2);have F2:Hid (Fr (MB mb wb fv) w w2):=zab (by rw[hw2];exact F1.o.drewN n2);clear hw2;go_wp2_with fail
 refine (Sto.zbK (c:=2) H2.o.sat HP.o).mono ?_;rintro e w3 ⟨rfl,h3,f3⟩;have H3:Hid (MAt w3 mb wb fv { m with s:=s1 }):=zab (H2.o.fr2 h3 f3);have F3:Hid (Fr (MB mb wb fv) w w3):=zab (F2.o.trans (f3.zcW fv));clear h3 f3;go_wp2_with fail
 refine (zha H3.o HC.o).mono ?_;rintro e w4 h4;cases res with
 |error k=>
  obtain ⟨f4,rfl,h4⟩:=h4;exact ⟨rfl,F3.o.trans f4,rfl,h4⟩
 |ok m4=>
  obtain ⟨f4,rfl,h4⟩:=h4;have H4:=zab h4;clear h4;go_wp2_with fail
  first|go_end0|refine bodyPost_ret (results_none rfl _ _ _) rfl ?_
  exact ⟨F3.o.trans f4,rfl,H4.o⟩
theorem zoI(h:MAt w mb wb fv m)(hr:m.numberAt 0=some (.ok r))(hl:m.numberAt 1=some (.ok l))(hp:m.s.pop 2=some s1)(hc:MSt.zcP ⟨s1,m.o,m.fns⟩ (decide (l=r))=some res):
  Calls Tryz.prog 141 #[.pointer (some ⟨mb,0,none⟩),.string ⟨#[61,61]⟩] w fun e w'=>Ends w mb wb fv res e w':=by
 obtain ⟨z,hz⟩:∃ z,IntKind.i64.wrap l=z:=⟨_,rfl⟩
 try rw[hz]at hc
 have HR:=zab hr;have HL:=zab hl;have HP:=zab hp;have HH:=zab h;have HC:=zab hc;clear h hr hl hp hc;go_enter Tryz.func141,Tryz.ntmps141
 go_wp2_with fail
 refine (zaD (d:=0) HH.o HR.o).mono ?_;rintro e w1 ⟨⟨n1,hw1⟩,rfl⟩;have H1:Hid (MAt w1 mb wb fv m):=zab (by rw[hw1];exact HH.o.drewN n1);have F1:Hid (Fr (MB mb wb fv) w w1):=zab (by rw[hw1];exact (Fr.refl _ _).drewN n1);clear hw1;go_wp2_with fail
 refine (zaD (d:=1) H1.o HL.o).mono ?_;rintro e w2 ⟨⟨n2,hw2⟩,rfl⟩;have H2:Hid (MAt w2 mb wb fv m):=zab (by rw[hw2];exact H1.o.drewN n2);have F2:Hid (Fr (MB mb wb fv) w w2):=zab (by rw[hw2];exact F1.o.drewN n2);clear hw2;go_wp2_with fail
 refine (Sto.zbK (c:=2) H2.o.sat HP.o).mono ?_;rintro e w3 ⟨rfl,h3,f3⟩;have H3:Hid (MAt w3 mb wb fv { m with s:=s1 }):=zab (H2.o.fr2 h3 f3);have F3:Hid (Fr (MB mb wb fv) w w3):=zab (F2.o.trans (f3.zcW fv));clear h3 f3;go_wp2_with fail
 refine (zha H3.o HC.o).mono ?_;rintro e w4 h4;cases res with
 |error k=>
  obtain ⟨f4,rfl,h4⟩:=h4;exact ⟨rfl,F3.o.trans f4,rfl,h4⟩
 |ok m4=>
  obtain ⟨f4,rfl,h4⟩:=h4;have H4:=zab h4;clear h4;go_wp2_with fail
  first|go_end0|refine bodyPost_ret (results_none rfl _ _ _) rfl ?_
  exact ⟨F3.o.trans f4,rfl,H4.o⟩
theorem zo6(h:MAt w mb wb fv m)(hr:m.numberAt 0=some (.ok r))(hl:m.numberAt 1=some (.ok l))(hp:m.s.pop 2=some s1)(hr0:r≠0)(hc:MSt.zau ⟨s1,m.o,m.fns⟩ (IntKind.i64.wrap (Int.tdiv l r))=some res):
  Calls Tryz.prog 141 #[.pointer (some ⟨mb,0,none⟩),.string ⟨#[47]⟩] w fun e w'=>Ends w mb wb fv res e w':=by
 obtain ⟨z,hz⟩:∃ z,IntKind.i64.wrap (Int.tdiv l r)=z:=⟨_,rfl⟩
 try rw[hz]at hc
 have hr1:(r == 0)=false:=by rw[beq_eq_false_iff_ne];exact hr0
 have HR:=zab hr;have HL:=zab hl;have HP:=zab hp;have HH:=zab h;have HC:=zab hc;clear h hr hl hp hc;go_enter Tryz.func141,Tryz.ntmps141
 go_wp2_with fail
 refine (zaD (d:=0) HH.o HR.o).mono ?_;rintro e w1 ⟨⟨n1,hw1⟩,rfl⟩;have H1:Hid (MAt w1 mb wb fv m):=zab (by rw[hw1];exact HH.o.drewN n1);have F1:Hid (Fr (MB mb wb fv) w w1):=zab (by rw[hw1];exact (Fr.refl _ _).drewN n1);clear hw1;go_wp2_with fail
 refine (zaD (d:=1) H1.o HL.o).mono ?_;rintro e w2 ⟨⟨n2,hw2⟩,rfl⟩;have H2:Hid (MAt w2 mb wb fv m):=zab (by rw[hw2];exact H1.o.drewN n2);have F2:Hid (Fr (MB mb wb fv) w w2):=zab (by rw[hw2];exact F1.o.drewN n2);clear hw2;go_wp2_with fail
 refine (Sto.zbK (c:=2) H2.o.sat HP.o).mono ?_;rintro e w3 ⟨rfl,h3,f3⟩;have H3:Hid (MAt w3 mb wb fv { m with s:=s1 }):=zab (H2.o.fr2 h3 f3);have F3:Hid (Fr (MB mb wb fv) w w3):=zab (F2.o.trans (f3.zcW fv));clear h3 f3;go_wp2_with fail
 refine (zbZ H3.o HC.o).mono ?_;rintro e w4 h4;cases res with
 |error k=>
  obtain ⟨f4,rfl,h4⟩:=h4;exact ⟨rfl,F3.o.trans f4,rfl,h4⟩
 |ok m4=>
  obtain ⟨f4,rfl,h4⟩:=h4;have H4:=zab h4;clear h4;go_wp2_with fail
  first|go_end0|refine bodyPost_ret (results_none rfl _ _ _) rfl ?_
  exact ⟨F3.o.trans f4,rfl,H4.o⟩
theorem znf(h:MAt w mb wb fv m)(hr:m.numberAt 0=some (.ok r))(hl:m.numberAt 1=some (.ok l))(hp:m.s.pop 2=some s1)(hr0:r=0)(hc:some (Except.error 3)=some res):
  Calls Tryz.prog 141 #[.pointer (some ⟨mb,0,none⟩),.string ⟨#[47]⟩] w fun e w'=>Ends w mb wb fv res e w':=by
 subst hr0;obtain rfl:=zxQ hc;have HR:=zab hr;have HL:=zab hl;have HP:=zab hp;have HH:=zab h;clear h hr hl hp;go_enter Tryz.func141,Tryz.ntmps141
 go_wp2_with fail
 refine (zaD (d:=0) HH.o HR.o).mono ?_;rintro e w1 ⟨⟨n1,hw1⟩,rfl⟩;have H1:Hid (MAt w1 mb wb fv m):=zab (by rw[hw1];exact HH.o.drewN n1);have F1:Hid (Fr (MB mb wb fv) w w1):=zab (by rw[hw1];exact (Fr.refl _ _).drewN n1);clear hw1;go_wp2_with fail
 refine (zaD (d:=1) H1.o HL.o).mono ?_;rintro e w2 ⟨⟨n2,hw2⟩,rfl⟩;have H2:Hid (MAt w2 mb wb fv m):=zab (by rw[hw2];exact H1.o.drewN n2);have F2:Hid (Fr (MB mb wb fv) w w2):=zab (by rw[hw2];exact F1.o.drewN n2);clear hw2;go_wp2_with fail
 refine (Sto.zbK (c:=2) H2.o.sat HP.o).mono ?_;rintro e w3 ⟨rfl,h3,f3⟩;have H3:Hid (MAt w3 mb wb fv { m with s:=s1 }):=zab (H2.o.fr2 h3 f3);have F3:Hid (Fr (MB mb wb fv) w w3):=zab (F2.o.trans (f3.zcW fv));clear h3 f3;go_wp2_with fail
 refine (zb9 3 _).mono ?_;rintro e w4 ⟨rfl,rfl⟩;exact ⟨rfl,F3.o,rfl,_,H3.o⟩
variable {sg:ByteArray}
theorem znn(h:MAt w mb wb fv m)(hr:m.numberAt 0=some (.error k)):
  Calls Tryz.prog 141 #[.pointer (some ⟨mb,0,none⟩),.string sg] w fun e w'=>Ends w mb wb fv (.error k) e w':=by
 have HR:=zab hr;have HH:=zab h;clear h hr;go_enter Tryz.func141,Tryz.ntmps141
 go_wp2_with fail
 refine (zaD (d:=0) HH.o HR.o).mono ?_;rintro e w1 ⟨⟨n1,hw1⟩,rfl⟩;have H1:Hid (MAt w1 mb wb fv m):=zab (by rw[hw1];exact HH.o.drewN n1);have F1:Hid (Fr (MB mb wb fv) w w1):=zab (by rw[hw1];exact (Fr.refl _ _).drewN n1);exact ⟨rfl,F1.o,rfl,_,H1.o⟩
theorem zn2(h:MAt w mb wb fv m)(hr:m.numberAt 0=some (.ok r))(hl:m.numberAt 1=some (.error k)):
  Calls Tryz.prog 141 #[.pointer (some ⟨mb,0,none⟩),.string sg] w fun e w'=>Ends w mb wb fv (.error k) e w':=by
 have HR:=zab hr;have HL:=zab hl;have HH:=zab h;clear h hr hl;go_enter Tryz.func141,Tryz.ntmps141
 go_wp2_with fail
 refine (zaD (d:=0) HH.o HR.o).mono ?_;rintro e w1 ⟨⟨n1,hw1⟩,rfl⟩;have H1:Hid (MAt w1 mb wb fv m):=zab (by rw[hw1];exact HH.o.drewN n1);have F1:Hid (Fr (MB mb wb fv) w w1):=zab (by rw[hw1];exact (Fr.refl _ _).drewN n1);clear hw1;go_wp2_with fail
 refine (zaD (d:=1) H1.o HL.o).mono ?_;rintro e w2 ⟨⟨n2,hw2⟩,rfl⟩;have H2:Hid (MAt w2 mb wb fv m):=zab (by rw[hw2];exact H1.o.drewN n2);have F2:Hid (Fr (MB mb wb fv) w w2):=zab (by rw[hw2];exact F1.o.drewN n2);exact ⟨rfl,F2.o,rfl,_,H2.o⟩
theorem zpe(h:MAt w mb wb fv m)(hc:m.compute sg=some res):
  Calls Tryz.prog 141 #[.pointer (some ⟨mb,0,none⟩),.string sg] w fun e w'=>Ends w mb wb fv res e w':=by
 unfold MSt.compute at hc;split at hc
 ·cases hc
 ·next k hr=>obtain rfl:=zxQ hc;exact znn h hr
 ·next r hr=>
  split at hc
  ·cases hc
  ·next k hl=>obtain rfl:=zxQ hc;exact zn2 h hr hl
  ·next l hl=>
   split at hc
   ·cases hc
   ·next s1 hp=>
    unfold MSt.calc at hc;split at hc
    ·next hs=>subst hs;exact zoT h hr hl hp hc
    ·split at hc
     ·next hs=>subst hs;exact zpn h hr hl hp hc
     ·split at hc
      ·next hs=>subst hs;exact zpp h hr hl hp hc
      ·split at hc
       ·next hs=>
        subst hs;split at hc
        ·next h0=>exact znf h hr hl hp h0 hc
        ·next h0=>exact zo6 h hr hl hp h0 hc
       ·split at hc
        ·next hs=>subst hs;exact zm9 h hr hl hp hc
        ·split at hc
         ·next hs=>subst hs;exact zoI h hr hl hp hc
         ·cases hc
def Sto.update (s:Sto):Option Sto:=
 match s.ws[s.top]? with
 |none=>none
 |some v=>
  match s.ws[s.top+2]? with
  |none=>none
  |some c=>if 0<=v/\v<=1000000/\0<=c/\c<s.ws.length then
    some { s with ws:=(s.ws.set c.toNat (Hd 4 v.toNat 0)).set (s.top+2) v,top:=s.top+2 }
   else none
theorem zrO(h:SAt w mb wb tl s)(hu:s.update=some s'):
  Calls Tryz.prog 203 #[.pointer (some ⟨mb,0,none⟩)] w fun e w'=>e=.returned (.tuple #[])/\SAt w' mb wb tl s'/\Fr (M2 mb wb) w w':=by
 obtain ⟨ws,hf,lo,fr,t⟩:=s;unfold Sto.update at hu;simp only at hu;split at hu
 ·cases hu
 ·next v hv=>
  split at hu
  ·cases hu
  ·next c hc=>
   split at hu
   ·next hg=>
    obtain rfl:=zxQ hu;obtain ⟨v,rfl⟩:∃ a:Nat,v=a:=⟨v.toNat,by omega⟩;obtain ⟨c,rfl⟩:∃ a:Nat,c=a:=⟨c.toNat,by omega⟩;simp only[zxY];have hlen:ws.length<=1000000:=h.len;have htl:t+2<ws.length:=(zxH.1 hc).1;have hcl:c<ws.length:=by omega
    obtain ⟨u,hu2⟩:∃ u,t+2=u:=⟨_,rfl⟩;have CA0:=zab (zaz h 0 _ hv);have HC:=zab hc;have HH:=zab h;have CH:=zab (fun W:World=>zbt 4 v 0 W (by omega) (by omega) (by omega));obtain ⟨z,hz⟩:∃ z,Hd 4 v 0=z:=⟨_,rfl⟩;rw[hz]at CH ⊢;have hc2:(c:Int)<(ws.length:Int):=by omega
    have hoth:=zcg h.ne;clear h hu hv hc hg hz;go_enter Tryz.func203,Tryz.ntmps203
    go_wp2_with fail
    refine CA0.o.mono ?_;rintro e w1 ⟨rfl,k1,hw1⟩;have H1:Hid (SAt w1 mb wb tl ⟨ws,hf,lo,fr,t⟩):=zab (by rw[hw1];exact HH.o.drewN k1);have F1:Hid (Fr (M2 mb wb) w w1):=zab (by rw[hw1];exact (Fr.refl _ _).drewN k1);clear hw1 CA0;have c0:=H1.o.c0;simp only at c0;go_wp2_with fail
    go_region_held3 (fun W=>W.cell? ⟨mb,0,none⟩=some (.slice (some ⟨wb,0,none⟩) ws.length ws.length)) (first|go_keep|assumption) (first
     |(go_at_call 75;refine (CH.o _).mono ?_;rintro e w3 ⟨rfl,hw3⟩;subst w3)
     |(go_at_call 82;refine (zaz H1.o.drew 2 _ HC.o).mono ?_;rintro e w2 ⟨rfl,k2,hw2⟩;have H2:Hid (SAt w2 mb wb tl ⟨ws,hf,lo,fr,t⟩):=zab (by rw[hw2];exact H1.o.drew.drewN k2);have F2:Hid (Fr (M2 mb wb) w w2):=zab (by rw[hw2];exact F1.o.drew.drewN k2);have d0:=H2.o.c0;have dc:=H2.o.zi6 (i:=c) hcl;have df:=H2.o.zey.frozen c;simp only at d0 dc;clear hw2))
    all_goals
     have H3:=zab (H2.o.zcB c z);have F3:=zab (F2.o.set ⟨wb,c,none⟩ (.int .i64 z) (.inl (.inr rfl)));generalize w2.setCell ⟨wb,c,none⟩ (.int .i64 z)=w3 at H3 F3;clear c0 d0 dc df;go_wp2_with fail
     refine (Go.Proofs.YtgahgkddaljmkaaGreatDoor.zbK H3.o 2 (by simp only;omega)).mono ?_;rintro e w4 ⟨rfl,h4,f4⟩;have H4:=zab h4;have F4:=zab (F3.o.trans f4);have c0:=h4.c0;have c4:=h4.c4;simp only[hu2]at c4;have ct:=h4.zi6 (i:=u) (by simp only[zx2];omega);have cf:=h4.zey.frozen u;simp only[zx2]at c0;clear h4 f4;have ht2:(u:Int)<(ws.length:Int):=by omega
     have ht3:(0:Int)<=(u:Int):=by omega
     go_wp2_with fail
     go_region_held3 (fun W=>W.cell? ⟨mb,0,none⟩=some (.slice (some ⟨wb,0,none⟩) ws.length ws.length)/\W.cell? ⟨mb,4,none⟩=some (.int .i64 u)) (first|go_keep|(refine ⟨?_,?_⟩ <;> assumption)) (fail)
     all_goals
      go_wp2_with fail
      first|go_end0|refine bodyPost_ret (results_none rfl _ _ _) rfl ?_
      refine ⟨rfl,?_,F4.o.drew.set _ _ (.inl (.inr rfl))⟩;have:=H4.o.drew.zcB u v;simp only[hu2]at this ⊢;exact this
   ·cases hu
end Go.Proofs.YtgahgkddaljmkaaGreatDoor
