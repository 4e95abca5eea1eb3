/- Mach11 .. Mach15 -/
import Derived.Test.YtgahgkddaljmkaaGreatDoorW2
set_option maxRecDepth 100000
set_option maxHeartbeats 4000000
namespace Go.Proofs.YtgahgkddaljmkaaGreatDoor
open Tryz
open Go.RowKit
attribute [local go_sem ↓] Go.wp_at_zero Go.wp_at_succ
structure MSt where
 s:Sto
 o:Oth
 fns:List Int
structure MAt (w:World) (mb wb:Nat) (fv:Value) (m:MSt):Prop where
 sat:SAt w mb wb (zeu m.o fv) m.s
 fat:zo4 w mb wb m.fns fv
 fl:m.fns.length<=1000000
 fuel:m.o.fuel<=1000000000
variable {w:World}
variable {mb wb:Nat}
variable {fv:Value}
variable {m:MSt}
variable {s':Sto}
theorem MAt.fr2{w':World}(h:MAt w mb wb fv m)(hs:SAt w' mb wb (zeu m.o fv) s')(f:Fr (M2 mb wb) w w'):MAt w' mb wb fv { m with s:=s' }:=⟨hs,h.fat.fr f,h.fl,h.fuel⟩
theorem MAt.drewN{w:World}{mb wb:Nat}{fv:Value}{m:MSt}(h:MAt w mb wb fv m)(n:Nat):MAt (w.drewN n) mb wb fv m:=⟨h.sat.drewN n,h.fat.fr ((Fr.refl _ _).drewN n),h.fl,h.fuel⟩
def up (k:Nat):Ending:=.panicked [{ v:=.iface 82 (.int .i64 k),recovered:=false }]
def Ends (w:World) (mb wb:Nat) (fv:Value) (r:Except Nat MSt) (e:Ending) (w':World):Prop:=
 Fr (MB mb wb fv) w w'/\match r with
 |.ok m'=>e=.returned (.tuple #[])/\MAt w' mb wb fv m'
 |.error k=>e=up k/\∃ m',MAt w' mb wb fv m'
def MSt.zdI (m:MSt) (c:Nat):Option (Except Nat MSt):=
 if (c:Int)<=(m.s.top:Int)-(m.s.free:Int) then some (.ok m) else
 match m.s.collect m.fns with
 |none=>none
 |some (cI,s')=>if (s'.top:Int)-(s'.free:Int)<(c:Int) then some (.error 4) else some (.ok { m with s:=s',fns:=cI })
variable {s:Sto}
theorem zlh{fns cI:List Int}(hc:s.collect fns=some (cI,s')):cI.length=fns.length:=by
 unfold Sto.collect at hc;split at hc
 ·split at hc
  ·cases hc
  ·split at hc
   ·cases hc
   ·next gj s2 aw=>
    split at hc
    ·cases hc
    ·simp only[zyP,zzL]at hc;rw[<-hc.1];exact (zdQ aw).2.2.2.2
 ·cases hc
variable {c:Nat}
theorem zaW{r:Except Nat MSt}(h:MAt w mb wb fv m)(hc:m.zdI c=some r):
  Calls prog 73 #[.pointer (some ⟨mb,0,none⟩),.int .i64 c] w fun e w'=>Ends w mb wb fv r e w':=by
 unfold MSt.zdI at hc;have CL:=zab (zms h.sat);by_cases h1:(c:Int)<=(m.s.top:Int)-(m.s.free:Int)
 ·rw[if_pos h1]at hc;obtain rfl:=zyU hc;have HH:=zab h;clear h hc;go_enter func73,ntmps73
  go_wp2_with fail
  refine CL.o.mono ?_;rintro e w1 ⟨rfl,k1,aD⟩;have H1:Hid (MAt w1 mb wb fv m):=zab (by rw[aD];exact HH.o.drewN k1);have F1:Hid (Fr (MB mb wb fv) w w1):=zab (by rw[aD];exact (Fr.refl _ _).drewN k1);clear aD;go_wp2_with fail
  first|go_end0|refine bodyPost_ret (results_none rfl _ _ _) rfl ?_
  exact ⟨F1.o,rfl,H1.o⟩
 ·rw[if_neg h1]at hc;split at hc
  ·cases hc
  ·next gj s2 jW=>
   have HH:=zab h;have CC:=zab (fun k:Nat=>zpi (h.drewN k).sat (h.drewN k).fat jW h.fl);have pG:Hid (gj.length<=1000000):=zab (by rw[zlh jW];exact h.fl);have yV:=zab h.fuel;by_cases h2:(s2.top:Int)-(s2.free:Int)<(c:Int)
   ·rw[if_pos h2]at hc;obtain rfl:=zyU hc;clear h hc jW;go_enter func73,ntmps73
    go_wp2_with fail
    refine CL.o.mono ?_;rintro e w1 ⟨rfl,k1,rfl⟩;go_wp2_with fail
    refine (CC.o k1).mono ?_;rintro e w2 ⟨rfl,pA,re,fr2⟩;have H2:Hid (MAt w2 mb wb fv ⟨s2,m.o,gj⟩):=zab ⟨pA,re,pG.o,yV.o⟩;have F2:Hid (Fr (MB mb wb fv) w w2):=zab (((Fr.refl _ _).drewN k1).trans fr2);have vk:=zab (zms pA);clear pA re fr2;go_wp2_with fail
    refine vk.o.mono ?_;rintro e w3 ⟨rfl,k3,bL⟩;have H3:Hid (MAt w3 mb wb fv ⟨s2,m.o,gj⟩):=zab (by rw[bL];exact H2.o.drewN k3);have F3:Hid (Fr (MB mb wb fv) w w3):=zab (by rw[bL];exact F2.o.drewN k3);clear bL;go_wp2_with fail
    refine (zce 4 _).mono ?_;rintro e w4 ⟨rfl,rfl⟩;exact ⟨rfl,F3.o,rfl,_,H3.o⟩
   ·rw[if_neg h2]at hc;obtain rfl:=zyU hc;clear h hc jW;go_enter func73,ntmps73
    go_wp2_with fail
    refine CL.o.mono ?_;rintro e w1 ⟨rfl,k1,rfl⟩;go_wp2_with fail
    refine (CC.o k1).mono ?_;rintro e w2 ⟨rfl,pA,re,fr2⟩;have H2:Hid (MAt w2 mb wb fv ⟨s2,m.o,gj⟩):=zab ⟨pA,re,pG.o,yV.o⟩;have F2:Hid (Fr (MB mb wb fv) w w2):=zab (((Fr.refl _ _).drewN k1).trans fr2);have vk:=zab (zms pA);clear pA re fr2;go_wp2_with fail
    refine vk.o.mono ?_;rintro e w3 ⟨rfl,k3,bL⟩;have H3:Hid (MAt w3 mb wb fv ⟨s2,m.o,gj⟩):=zab (by rw[bL];exact H2.o.drewN k3);have F3:Hid (Fr (MB mb wb fv) w w3):=zab (by rw[bL];exact F2.o.drewN k3);clear bL;go_wp2_with fail
    first|go_end0|refine bodyPost_ret (results_none rfl _ _ _) rfl ?_
    exact ⟨F3.o,rfl,H3.o⟩
def MSt.zsJ (m:MSt):Except Nat MSt:=if m.o.fuel=0 then .error 5 else .ok { m with o:={ m.o with fuel:=m.o.fuel-1 } }
variable {o:Oth}
theorem SAt.c9(h:SAt w mb wb (zeu o fv) s):w.cell? ⟨mb,9,none⟩=some (.int .i64 o.fuel):=h.blk.cell 9
theorem SAt.zxL(h:SAt w mb wb (zeu o fv) s)(v:Nat):SAt (w.setCell ⟨mb,9,none⟩ (.int .i64 v)) mb wb (zeu { o with fuel:=v } fv) s:=
 ⟨h.blk.set 9 (.int .i64 v),h.zeC.other _ _ h.ne.symm,h.ne,h.len,h.half,h.low,h.free,h.top⟩
theorem SAt.zgs(h:SAt w mb wb (zeu o fv) s)(v:Int):SAt (w.setCell ⟨mb,10,none⟩ (.int .i64 v)) mb wb (zeu { o with next:=v } fv) s:=
 ⟨h.blk.set 10 (.int .i64 v),h.zeC.other _ _ h.ne.symm,h.ne,h.len,h.half,h.low,h.free,h.top⟩
theorem SAt.zv5(h:SAt w mb wb (zeu o fv) s)(v:Int):SAt (w.setCell ⟨mb,11,none⟩ (.int .i64 v)) mb wb (zeu { o with below:=v } fv) s:=
 ⟨h.blk.set 11 (.int .i64 v),h.zeC.other _ _ h.ne.symm,h.ne,h.len,h.half,h.low,h.free,h.top⟩
theorem zl7(h:MAt w mb wb fv m):
  Calls prog 80 #[.pointer (some ⟨mb,0,none⟩)] w fun e w'=>Ends w mb wb fv m.zsJ e w':=by
 have c9:=h.sat.c9;have f9:=h.sat.blk.frozen 9;unfold MSt.zsJ;by_cases h0:m.o.fuel=0
 ·rw[if_pos h0];rw[h0]at c9;have HH:=zab h;clear h h0;go_enter func80,ntmps80
  go_wp2_with fail
  refine (zce 5 _).mono ?_;rintro e w4 ⟨rfl,rfl⟩;exact ⟨rfl,Fr.refl _ _,rfl,_,HH.o⟩
 ·rw[if_neg h0];obtain ⟨k,hk⟩:∃ k,m.o.fuel=k+1:=⟨m.o.fuel-1,by omega⟩;have lj:(k:Int)+1<=1000000000:=by have:=h.fuel;omega
  rw[hk]at c9;have HB:Hid (SAt (w.setCell ⟨mb,9,none⟩ (.int .i64 k)) mb wb (zeu { m.o with fuel:=k } fv) m.s):=zab (h.sat.zxL k);have HE:Hid (m.o.fuel-1=k):=zab (by omega);have HF:=zab h.fat;have pG:=zab h.fl;have aH:(((k:Int)+1) == 0)=false:=by rw[beq_eq_false_iff_ne];omega
  simp only[zzq,Int.natCast_one]at c9;clear h h0 hk;go_enter func80,ntmps80
  go_wp2_with fail
  first|go_end0|refine bodyPost_ret (results_none rfl _ _ _) rfl ?_
  have fr:Fr (M2 mb wb) w (w.setCell ⟨mb,9,none⟩ (.int .i64 k)):=(Fr.refl _ _).set _ _ (.inl (.inl rfl));refine ⟨fr.zc9 fv,rfl,?_⟩;rw[HE.o];exact ⟨HB.o,HF.o.fr fr,pG.o,by show k<=1000000000;omega⟩
theorem SAt.c5(h:SAt w mb wb (zeu o fv) s):w.cell? ⟨mb,5,none⟩=some o.pb:=h.blk.cell 5
theorem SAt.c10(h:SAt w mb wb (zeu o fv) s):w.cell? ⟨mb,10,none⟩=some (.int .i64 o.next):=h.blk.cell 10
theorem SAt.c11(h:SAt w mb wb (zeu o fv) s):w.cell? ⟨mb,11,none⟩=some (.int .i64 o.below):=h.blk.cell 11
theorem zlc(h:MAt w mb wb fv m){b:Nat}(hb:m.o.below=b)(aA:b<=2000000):
  Calls prog 207 #[.pointer (some ⟨mb,0,none⟩)] w fun e w'=>e=.returned (.int .i64 ((m.s.low:Int)+(m.s.half:Int)-(b:Int)))/\∃ n,w'=w.drewN n:=by
 have c11:=h.sat.c11;rw[hb]at c11;have b1:=h.sat.half;have b2:=h.sat.low;have CE:=zab (fun n:Nat=>zhJ (h.sat.drewN n));simp only[zzq]at CE;clear h hb;go_enter func207,ntmps207
 go_wp2_with fail
 go_quiet ((go_at_call 78;exact Calls.quiet_of (CE.o _)))
 go_wp2_with fail
 go_ret
 exact ⟨by simp,_,rfl⟩
def MSt.slot (m:MSt) (k:Nat):Option Nat:=if 0<=m.o.below/\m.o.below+1+(k:Int)<=(m.s.low:Int)+(m.s.half:Int) then some ((m.s.low:Int)+(m.s.half:Int)-m.o.below-1-(k:Int)).toNat else none
variable {k:Nat}
theorem zqT{i:Nat}(h:m.slot k=some i):∃ b:Nat,m.o.below=b/\b+1+k+i=m.s.low+m.s.half:=by
 unfold MSt.slot at h;split at h
 ·next hg=>
  obtain rfl:=zyU h;exact ⟨m.o.below.toNat,by omega,by omega⟩
 ·cases h
theorem zqS(h:MAt w mb wb fv m){i:Nat}(hk:m.slot k=some i):
  Calls prog 131 #[.pointer (some ⟨mb,0,none⟩),.int .i64 k] w fun e w'=>e=.returned (.int .i64 i)/\∃ n,w'=w.drewN n:=by
 obtain ⟨b,hb,hs⟩:=zqT hk;have b1:=h.sat.half;have b2:=h.sat.low;have CB:=zab (zlc h hb (by omega));have he:(m.s.low:Int)+(m.s.half:Int)-(b:Int)=1+(k:Int)+(i:Int):=by omega
 rw[he]at CB;have b3:(k:Int)+(i:Int)<=2000000:=by omega
 clear h hk hb hs he b1 b2;go_enter func131,ntmps131
 go_wp2_with fail
 refine CB.o.mono ?_;rintro e w1 ⟨rfl,n,rfl⟩;go_wp2_with fail
 go_ret
 exact ⟨zeW (by omega),_,rfl⟩
def MSt.numberAt (m:MSt) (d:Nat):Option (Except Nat Int):=
 match m.s.ws[m.s.top+d]? with
 |none=>none
 |some x=>if x<0 then none else
  match m.s.ws[x.toNat]? with
  |none=>none
  |some y=>if y<0\/9223372036854775808<=y then none else
   if y%16=0 then
    match m.s.ws[x.toNat+1]? with
    |none=>none
    |some v=>some (.ok v)
   else some (.error 3)
def zw5 (r:Except Nat Int) (e:Ending):Prop:=
 match r with
 |.ok v=>e=.returned (.int .i64 v)
 |.error k=>e=up k
theorem zaD(h:MAt w mb wb fv m){d:Nat}{r:Except Nat Int}(hr:m.numberAt d=some r):
  Calls prog 140 #[.pointer (some ⟨mb,0,none⟩),.int .i64 d] w fun e w'=>(∃ n,w'=w.drewN n)/\zw5 r e:=by
 unfold MSt.numberAt at hr;split at hr
 ·cases hr
 ·next x hx=>
  split at hr
  ·cases hr
  ·next cX=>
   split at hr
   ·cases hr
   ·next y hy=>
    split at hr
    ·cases hr
    ·next aT=>
     obtain ⟨a,rfl⟩:∃ a:Nat,x=a:=⟨x.toNat,by omega⟩;simp only[zy2]at hy hr;have CA:=zab (zaA h.sat d _ hx);have aU:=(zyL.1 hy).1;have eo:(a:Int)<(m.s.ws.length:Int):=by omega
     have hlen:=h.sat.len;have HH:=zab h;have CK:=zab (fun W:World=>za4 y W (by omega) (by omega));have HY:=zab hy;clear h hx cX hy;by_cases hk:y%16=0
     ·rw[if_pos hk]at hr;split at hr
      ·cases hr
      ·next v hv=>
       obtain rfl:=zyU hr;rw[hk]at CK;have ji:=(zyL.1 hv).1;have Ac:(a:Int)+1<(m.s.ws.length:Int):=by omega
       have HV:=zab hv;clear hr hk hv aT;go_enter func140,ntmps140
       go_wp2_with fail
       refine CA.o.mono ?_;rintro e w1 ⟨rfl,n,aD⟩;have H1:Hid (MAt w1 mb wb fv m):=zab (by rw[aD];exact HH.o.drewN n);have HW:=zab aD;clear aD;have c0:=H1.o.sat.c0;have ca:=H1.o.sat.word HY.o;have cb:=H1.o.sat.word HV.o;go_wp2_with fail
       refine (CK.o _).mono ?_;rintro e w2 ⟨rfl,rfl⟩;go_wp2_with fail
       go_ret
       exact ⟨⟨n,HW.o⟩,rfl⟩
     ·rw[if_neg hk]at hr;obtain rfl:=zyU hr;have lj:(y%16 == 0)=false:=by rw[beq_eq_false_iff_ne];exact hk
      have dF:0<=y%16:=by omega
      have cK:y%16<16:=by omega
      generalize y%16=z at CK hk lj dF cK;clear hr hk aT;go_enter func140,ntmps140
      go_wp2_with fail
      refine CA.o.mono ?_;rintro e w1 ⟨rfl,n,aD⟩;have H1:Hid (MAt w1 mb wb fv m):=zab (by rw[aD];exact HH.o.drewN n);have HW:=zab aD;clear aD;have c0:=H1.o.sat.c0;have ca:=H1.o.sat.word HY.o;go_wp2_with fail
      refine (CK.o _).mono ?_;rintro e w2 ⟨rfl,rfl⟩;go_wp2_with fail
      refine (zce 3 _).mono ?_;rintro e w4 ⟨rfl,rfl⟩;exact ⟨rfl,⟨n,HW.o⟩,rfl⟩
def Sto.push (s:Sto) (x:Int):Option Sto:=if 1<=s.top/\s.top<=s.ws.length then some { s with top:=s.top-1,ws:=s.ws.set (s.top-1) x } else none
def Sto.node (s:Sto) (hd:Int) (xs:List Int):Option Sto:=if s.free+1+xs.length<=s.ws.length then some { s with free:=s.free+1+xs.length,ws:=Go.splice (s.ws.set s.free hd) (s.free+1) xs } else none
def Sto.pop (s:Sto) (c:Nat):Option Sto:=if s.top+c<=1000000 then some { s with top:=s.top+c } else none
theorem Sto.zb5{w:World}{mb wb:Nat}{tl:List Value}{s s':Sto}(h:SAt w mb wb tl s){x:Int}(hx:s.push x=some s'):
  Calls prog 76 #[.pointer (some ⟨mb,0,none⟩),.int .i64 x] w fun e w'=>e=.returned (.tuple #[])/\SAt w' mb wb tl s'/\Fr (M2 mb wb) w w':=by
 unfold Sto.push at hx;split at hx
 ·next hg=>
  obtain rfl:=zyU hx;exact Go.Proofs.YtgahgkddaljmkaaGreatDoor.zb5 h x hg.1 hg.2
 ·cases hx
theorem Sto.zbQ{w:World}{mb wb:Nat}{tl:List Value}{s s':Sto}(h:SAt w mb wb tl s){c:Nat}(hx:s.pop c=some s'):
  Calls prog 137 #[.pointer (some ⟨mb,0,none⟩),.int .i64 c] w fun e w'=>e=.returned (.tuple #[])/\SAt w' mb wb tl s'/\Fr (M2 mb wb) w w':=by
 unfold Sto.pop at hx;split at hx
 ·next hg=>
  obtain rfl:=zyU hx;exact Go.Proofs.YtgahgkddaljmkaaGreatDoor.zbQ h c hg
 ·cases hx
theorem Sto.zej{w:World}{mb wb:Nat}{tl:List Value}{s s':Sto}(h:SAt w mb wb tl s){hd:Int}{xs:List Int}{sp:Option Addr}{cp:Nat}(hx:s.node hd xs=some s')(dX:0<xs.length->∃ ad,sp=some ad/\∀ (W:World),SAt W mb wb tl { s with ws:=s.ws.set s.free hd }->Fr (M2 mb wb) w W->∀ (j:Nat) x,xs[j]?=some x->W.cell? (ad.add j)=some (.int .i64 x)):
  Calls prog 74 #[.pointer (some ⟨mb,0,none⟩),.int .i64 hd,.slice sp xs.length cp] w fun e w'=>e=.returned (.int .i64 s.free)/\SAt w' mb wb tl s'/\Fr (M2 mb wb) w w':=by
 unfold Sto.node at hx;split at hx
 ·next hg=>
  obtain rfl:=zyU hx;exact Go.Proofs.YtgahgkddaljmkaaGreatDoor.zej h hd xs sp cp hg dX
 ·cases hx
variable {tl:List Value}
variable {hd:Int}
theorem Sto.zvV(h:SAt w mb wb tl s){v:Int}(hx:s.node hd [v]=some s'):
  Calls prog 74 #[.pointer (some ⟨mb,0,none⟩),.int .i64 hd,.slice (some ⟨w.heap.size,0,none⟩) 1 1] (w.alloc (Obj.cells #[.int .i64 v] 2)).drew fun e w'=>e=.returned (.int .i64 s.free)/\SAt w' mb wb tl s'/\Fr (M2 mb wb) w w':=by
 have f0:Fr (M2 mb wb) w (w.alloc (Obj.cells #[.int .i64 v] 2)).drew:=((Fr.refl _ _).alloc _).drew;have h0:=(h.below (zam w (Obj.cells #[.int .i64 v] 2))).drew;have hn:Blk (w.alloc (Obj.cells #[.int .i64 v] 2)).drew w.heap.size [.int .i64 v] 2:=(Blk.new w [.int .i64 v] 2).drew;have hm:=h.blk.lt;have hw:=h.zeC.lt;refine (Sto.zej (sp:=some ⟨w.heap.size,0,none⟩) (cp:=1) h0 hx (fun _=>⟨_,rfl,fun W _ fW j x hj=>?_⟩)).mono ?_
 ·have hb:=Fr.blk hn fW (by unfold M2;omega)
  match j,hj with
  |0,hj=>
   simp only[zzl,zyP]at hj;subst hj;rw[zbe];exact hb.cell 0
 ·rintro e w' ⟨rfl,q1,q2⟩;exact ⟨rfl,q1,f0.trans q2⟩
def Sto.words (s:Sto) (o c:Nat):List Int:=(s.ws.drop o).take c
theorem Sto.zcR{o:Nat}(h:o+c<=s.ws.length):(s.words o c).length=c:=by unfold Sto.words;rw[zzf,zzu];omega
theorem Sto.zd7{o j:Nat}{x:Int}(h:(s.words o c)[j]?=some x):j<c/\s.ws[o+j]?=some x:=by
 unfold Sto.words at h;rw[zzy]at h;split at h
 ·next hj=>rw[zzx]at h;exact ⟨hj,h⟩
 ·cases h
variable {cp:Nat}
theorem Sto.zqI(h:SAt w mb wb tl s){o o':Nat}(hx:s.node hd (s.words o c)=some s')(hf:s.free<o\/o+c<=s.free)(ho:o+c<=s.ws.length)(uO:0<c->o'=o):
  Calls prog 74 #[.pointer (some ⟨mb,0,none⟩),.int .i64 hd,.slice (some ⟨wb,o',none⟩) c cp] w fun e w'=>e=.returned (.int .i64 s.free)/\SAt w' mb wb tl s'/\Fr (M2 mb wb) w w':=by
 have:=Sto.zej (sp:=some ⟨wb,o',none⟩) (cp:=cp) h hx (fun h0=>⟨_,rfl,fun W hW _ j x hj=>by
  rw[Sto.zcR ho]at h0;obtain ⟨sy,lh⟩:=Sto.zd7 hj;rw[zbe,uO h0];refine hW.word ?_;simp only;rw[zAo (by omega)];exact lh⟩)
 rw[Sto.zcR ho]at this;exact this
def Sto.zek (s:Sto) (xs:List Int):Option Sto:=if xs.length<=s.top/\s.top<=s.ws.length then some { s with top:=s.top-xs.length,ws:=Go.splice s.ws (s.top-xs.length) xs } else none
theorem Sto.zel(h:SAt w mb wb tl s){xs:List Int}{o o':Nat}(hx:s.zek xs=some s')(tG:xs=s.words o c)(ho:o+c<=s.ws.length)(uO:0<c->o'=o):
  Calls prog 201 #[.pointer (some ⟨mb,0,none⟩),.slice (some ⟨wb,o',none⟩) c cp] w fun e w'=>e=.returned (.tuple #[])/\SAt w' mb wb tl s'/\Fr (M2 mb wb) w w':=by
 subst tG;unfold Sto.zek at hx;split at hx
 ·next hg=>
  obtain rfl:=zyU hx;have:=zpK h (s.words o c) (some ⟨wb,o',none⟩) cp (fun h0=>⟨_,rfl,fun W hW _ j x hj=>by
   rw[Sto.zcR ho]at h0;obtain ⟨sy,lh⟩:=Sto.zd7 hj;rw[zbe,uO h0];exact hW.word lh⟩) hg.1 hg.2
  simp only[Sto.zcR ho]at this ⊢;exact this
 ·cases hx
def aft (r:Option (Except Nat MSt)) (f:MSt->Option (Except Nat MSt)):Option (Except Nat MSt):=
 match r with
 |none=>none
 |some (.error k)=>some (.error k)
 |some (.ok m)=>f m
def MSt.put (m:MSt) (s:Option Sto):Option (Except Nat MSt):=s.map fun q=>.ok { m with s:=q }
def MSt.zau (m:MSt) (v:Int):Option (Except Nat MSt):=aft (m.zdI 3) fun m1=>m1.put ((m1.s.node 0 [v]).bind fun s=>s.push m1.s.free)
theorem hdr0:Hd 0 0 0=0:=rfl
theorem zb1{r:Except Nat MSt}(h:MAt w mb wb fv m){v:Int}(hc:m.zau v=some r):
  Calls prog 132 #[.pointer (some ⟨mb,0,none⟩),.int .i64 v] w fun e w'=>Ends w mb wb fv r e w':=by
 unfold MSt.zau aft at hc;split at hc
 ·cases hc
 ·next k hn=>
  obtain rfl:=zyU hc;have CN:=zab (zaW h hn);clear h hn hc;go_enter func132,ntmps132
  go_wp2_with fail
  refine CN.o.mono ?_;rintro e w1 ⟨f1,rfl,h1⟩;exact ⟨rfl,f1,rfl,h1⟩
 ·next m1 hn=>
  have CN:=zab (zaW h hn);simp only[MSt.put,zyX,zyQ]at hc;obtain ⟨s3,⟨s2,bg,aM⟩,rfl⟩:=hc;have HN:=zab bg;have pH:=zab aM;clear h hn bg aM;go_enter func132,ntmps132
  go_wp2_with fail
  refine CN.o.mono ?_;rintro e w1 ⟨f1,rfl,h1⟩;have F1:=zab f1;have H1:=zab h1;clear f1 h1 CN;go_wp2_with fail
  go_region_held3 (fun _=>True) (trivial) (first
   |(go_at_call 75;refine (zbt 0 0 0 _ (by omega) (by omega) (by omega)).mono ?_;rintro e w2 ⟨rfl,rfl⟩;rw[hdr0])
   |(go_at_call 74;refine (Sto.zvV H1.o.sat HN.o).mono ?_;rintro e w3 ⟨rfl,h3,f3⟩;have H3:=zab h3;have F3:=zab f3;clear h3 f3)
   |(go_at_call 76;refine (Sto.zb5 H3.o pH.o).mono ?_;rintro e w4 ⟨rfl,h4,f4⟩;have H4:=zab h4;have F4:=zab (F3.o.trans f4);clear h4 f4))
  all_goals
   go_wp2_with fail
   first|go_end0|refine bodyPost_ret (results_none rfl _ _ _) rfl ?_
   exact ⟨F1.o.trans (F4.o.zc9 fv),rfl,H1.o.fr2 H4.o F4.o⟩
def MSt.build (m:MSt) (hd:Int) (c:Nat):Option (Except Nat MSt):=aft (m.zdI (c+2)) fun m1=>
 if m1.s.free<m1.s.top/\m1.s.top+c<=m1.s.ws.length then m1.put ((m1.s.node hd (m1.s.words m1.s.top c)).bind fun s=>(s.pop c).bind fun q=>q.push m1.s.free) else none
theorem zgP{r:Except Nat MSt}(h:MAt w mb wb fv m)(jl:c<=1000000)(hc:m.build hd c=some r):
  Calls prog 133 #[.pointer (some ⟨mb,0,none⟩),.int .i64 hd,.int .i64 c] w fun e w'=>Ends w mb wb fv r e w':=by
 unfold MSt.build aft at hc;split at hc
 ·cases hc
 ·next k hn=>
  obtain rfl:=zyU hc;have CN:=zab (zaW h hn);simp only[zzq,zzJ]at CN;clear h hn hc;go_enter func133,ntmps133
  go_wp2_with fail
  refine CN.o.mono ?_;rintro e w1 ⟨f1,rfl,h1⟩;exact ⟨rfl,f1,rfl,h1⟩
 ·next m1 hn=>
  have CN:=zab (zaW h hn);simp only[zzq,zzJ]at CN;dsimp only at hc;split at hc
  ·next hg=>
   simp only[MSt.put,zyX,zyQ]at hc;obtain ⟨s4,⟨s2,bg,s3,dW,aM⟩,rfl⟩:=hc;have HN:=zab bg;have Ct:=zab dW;have pH:=zab aM;have HG:=zab hg;clear h hn bg dW aM hg;go_enter func133,ntmps133
   go_wp2_with fail
   refine CN.o.mono ?_;rintro e w1 ⟨f1,rfl,h1⟩;have F1:=zab f1;have H1:=zab h1;clear f1 h1 CN;go_wp2_with fail
   go_region_held3 (fun _=>True) (trivial) (first
    |(go_at_call 136;refine (zeZ (H1.o.sat.drew) c HG.o.2).mono ?_;rintro e w2 ⟨rfl,k2,aB⟩;have H2:Hid (SAt w2 mb wb (zeu m1.o fv) m1.s):=zab (by rw[aB];exact H1.o.sat.drew.drewN k2);have F2:Hid (Fr (M2 mb wb) w1 w2):=zab (by rw[aB];exact (Fr.refl _ _).drew.drewN k2);clear aB)
    |(go_at_call 74;refine (Sto.zqI H2.o HN.o (.inl HG.o.1) HG.o.2 (fun h0=>zbT (by have:=HG.o.2;omega))).mono ?_;rintro e w3 ⟨rfl,h3,f3⟩;have H3:=zab h3;have F3:=zab (F2.o.trans f3);clear h3 f3))
   all_goals
    go_wp2_with fail
    refine (Sto.zbQ H3.o Ct.o).mono ?_;rintro e w4 ⟨rfl,h4,f4⟩;have H4:=zab h4;have F4:=zab (F3.o.trans f4);clear h4 f4;go_wp2_with fail
    refine (Sto.zb5 H4.o pH.o).mono ?_;rintro e w5 ⟨rfl,h5,f5⟩;have H5:=zab h5;have F5:=zab (F4.o.trans f5);clear h5 f5;go_wp2_with fail
    first|go_end0|refine bodyPost_ret (results_none rfl _ _ _) rfl ?_
    exact ⟨F1.o.trans (F5.o.zc9 fv),rfl,H1.o.fr2 H5.o F5.o⟩
  ·cases hc
def MSt.zcN (m:MSt) (b:Bool):Option (Except Nat MSt):=m.build (Hd 1 (if b then 2 else 1) 0) 0
theorem zkG{r:Except Nat MSt}(h:MAt w mb wb fv m)(hc:m.build (Hd 1 2 0) 0=some r):
  Calls prog 208 #[.pointer (some ⟨mb,0,none⟩),.bool true] w fun e w'=>Ends w mb wb fv r e w':=by
 have CB:=zab (zgP h (by omega) hc);have CH:=zab (fun W:World=>zbt 1 2 0 W (by omega) (by omega) (by omega));generalize Hd 1 2 0=z at CB CH;clear h hc;go_enter func208,ntmps208
 go_wp2_with fail
 refine (CH.o _).mono ?_;rintro e w2 ⟨rfl,rfl⟩;go_wp2_with fail
 refine CB.o.mono ?_;rintro e w3 h3;cases r with
 |error k=>
  obtain ⟨f3,rfl,h3⟩:=h3;exact ⟨rfl,f3,rfl,h3⟩
 |ok m3=>
  obtain ⟨f3,rfl,h3⟩:=h3;have H3:=zab h3;clear h3;go_wp2_with fail
  first|go_end0|refine bodyPost_ret (results_none rfl _ _ _) rfl ?_
  exact ⟨f3,rfl,H3.o⟩
theorem zjE{r:Except Nat MSt}(h:MAt w mb wb fv m)(hc:m.build (Hd 1 1 0) 0=some r):
  Calls prog 208 #[.pointer (some ⟨mb,0,none⟩),.bool false] w fun e w'=>Ends w mb wb fv r e w':=by
 have CB:=zab (zgP h (by omega) hc);have CH:=zab (fun W:World=>zbt 1 1 0 W (by omega) (by omega) (by omega));generalize Hd 1 1 0=z at CB CH;clear h hc;go_enter func208,ntmps208
 go_wp2_with fail
 refine (CH.o _).mono ?_;rintro e w2 ⟨rfl,rfl⟩;go_wp2_with fail
 refine CB.o.mono ?_;rintro e w3 h3;cases r with
 |error k=>
  obtain ⟨f3,rfl,h3⟩:=h3;exact ⟨rfl,f3,rfl,h3⟩
 |ok m3=>
  obtain ⟨f3,rfl,h3⟩:=h3;have H3:=zab h3;clear h3;go_wp2_with fail
  first|go_end0|refine bodyPost_ret (results_none rfl _ _ _) rfl ?_
  exact ⟨f3,rfl,H3.o⟩
theorem zg9{r:Except Nat MSt}(h:MAt w mb wb fv m){b:Bool}(hc:m.zcN b=some r):
  Calls prog 208 #[.pointer (some ⟨mb,0,none⟩),.bool b] w fun e w'=>Ends w mb wb fv r e w':=by
 cases b
 ·exact zjE h hc
 ·exact zkG h hc
def MSt.calc (m:MSt) (sg:ByteArray) (l r:Int):Option (Except Nat MSt):=
 if sg=⟨#[43]⟩ then m.zau (IntKind.i64.wrap (l+r)) else
 if sg=⟨#[45]⟩ then m.zau (IntKind.i64.wrap (l-r)) else
 if sg=⟨#[42]⟩ then m.zau (IntKind.i64.wrap (l*r)) else
 if sg=⟨#[47]⟩ then (if r=0 then some (.error 3) else m.zau (IntKind.i64.wrap (Int.tdiv l r))) else
 if sg=⟨#[60]⟩ then m.zcN (decide (l<r)) else
 if sg=⟨#[61,61]⟩ then m.zcN (decide (l=r)) else none
def MSt.compute (m:MSt) (sg:ByteArray):Option (Except Nat MSt):=
 match m.numberAt 0 with
 |none=>none
 |some (.error k)=>some (.error k)
 |some (.ok r)=>
  match m.numberAt 1 with
  |none=>none
  |some (.error k)=>some (.error k)
  |some (.ok l)=>
   match m.s.pop 2 with
   |none=>none
   |some s1=>MSt.calc { m with s:=s1 } sg l r
variable {l r:Int}
variable {s1:Sto}
variable {res:Except Nat MSt}
theorem zpk(h:MAt w mb wb fv m)(hr:m.numberAt 0=some (.ok r))(hl:m.numberAt 1=some (.ok l))(hp:m.s.pop 2=some s1)(hc:MSt.zau ⟨s1,m.o,m.fns⟩ (IntKind.i64.wrap (l+r))=some res):
  Calls prog 141 #[.pointer (some ⟨mb,0,none⟩),.string ⟨#[43]⟩] w fun e w'=>Ends w mb wb fv res e w':=by
 obtain ⟨z,hz⟩:∃ z,IntKind.i64.wrap (l+r)=z:=⟨_,rfl⟩
 try rw[hz]at hc
 have HR:=zab hr;have HL:=zab hl;have HP:=zab hp;have HH:=zab h;have HC:=zab hc;clear h hr hl hp hc;go_enter func141,ntmps141
 go_wp2_with fail
 refine (zaD (d:=0) HH.o HR.o).mono ?_;rintro e w1 ⟨⟨n1,aD⟩,rfl⟩;have H1:Hid (MAt w1 mb wb fv m):=zab (by rw[aD];exact HH.o.drewN n1);have F1:Hid (Fr (MB mb wb fv) w w1):=zab (by rw[aD];exact (Fr.refl _ _).drewN n1);clear aD;go_wp2_with fail
 refine (zaD (d:=1) H1.o HL.o).mono ?_;rintro e w2 ⟨⟨n2,aB⟩,rfl⟩;have H2:Hid (MAt w2 mb wb fv m):=zab (by rw[aB];exact H1.o.drewN n2);have F2:Hid (Fr (MB mb wb fv) w w2):=zab (by rw[aB];exact F1.o.drewN n2);clear aB;go_wp2_with fail
 refine (Sto.zbQ (c:=2) H2.o.sat HP.o).mono ?_;rintro e w3 ⟨rfl,h3,f3⟩;have H3:Hid (MAt w3 mb wb fv { m with s:=s1 }):=zab (H2.o.fr2 h3 f3);have F3:Hid (Fr (MB mb wb fv) w w3):=zab (F2.o.trans (f3.zc9 fv));clear h3 f3;go_wp2_with fail
 refine (zb1 H3.o HC.o).mono ?_;rintro e w4 h4;cases res with
 |error k=>
  obtain ⟨f4,rfl,h4⟩:=h4;exact ⟨rfl,F3.o.trans f4,rfl,h4⟩
 |ok m4=>
  obtain ⟨f4,rfl,h4⟩:=h4;have H4:=zab h4;clear h4;go_wp2_with fail
  first|go_end0|refine bodyPost_ret (results_none rfl _ _ _) rfl ?_
  exact ⟨F3.o.trans f4,rfl,H4.o⟩
theorem zpp(h:MAt w mb wb fv m)(hr:m.numberAt 0=some (.ok r))(hl:m.numberAt 1=some (.ok l))(hp:m.s.pop 2=some s1)(hc:MSt.zau ⟨s1,m.o,m.fns⟩ (IntKind.i64.wrap (l-r))=some res):
  Calls prog 141 #[.pointer (some ⟨mb,0,none⟩),.string ⟨#[45]⟩] w fun e w'=>Ends w mb wb fv res e w':=by
 obtain ⟨z,hz⟩:∃ z,IntKind.i64.wrap (l-r)=z:=⟨_,rfl⟩
 try rw[hz]at hc
 have HR:=zab hr;have HL:=zab hl;have HP:=zab hp;have HH:=zab h;have HC:=zab hc;clear h hr hl hp hc;go_enter func141,ntmps141
 go_wp2_with fail
 refine (zaD (d:=0) HH.o HR.o).mono ?_;rintro e w1 ⟨⟨n1,aD⟩,rfl⟩;have H1:Hid (MAt w1 mb wb fv m):=zab (by rw[aD];exact HH.o.drewN n1);have F1:Hid (Fr (MB mb wb fv) w w1):=zab (by rw[aD];exact (Fr.refl _ _).drewN n1);clear aD;go_wp2_with fail
 refine (zaD (d:=1) H1.o HL.o).mono ?_;rintro e w2 ⟨⟨n2,aB⟩,rfl⟩;have H2:Hid (MAt w2 mb wb fv m):=zab (by rw[aB];exact H1.o.drewN n2);have F2:Hid (Fr (MB mb wb fv) w w2):=zab (by rw[aB];exact F1.o.drewN n2);clear aB;go_wp2_with fail
 refine (Sto.zbQ (c:=2) H2.o.sat HP.o).mono ?_;rintro e w3 ⟨rfl,h3,f3⟩;have H3:Hid (MAt w3 mb wb fv { m with s:=s1 }):=zab (H2.o.fr2 h3 f3);have F3:Hid (Fr (MB mb wb fv) w w3):=zab (F2.o.trans (f3.zc9 fv));clear h3 f3;go_wp2_with fail
 refine (zb1 H3.o HC.o).mono ?_;rintro e w4 h4;cases res with
 |error k=>
  obtain ⟨f4,rfl,h4⟩:=h4;exact ⟨rfl,F3.o.trans f4,rfl,h4⟩
 |ok m4=>
  obtain ⟨f4,rfl,h4⟩:=h4;have H4:=zab h4;clear h4;go_wp2_with fail
  first|go_end0|refine bodyPost_ret (results_none rfl _ _ _) rfl ?_
  exact ⟨F3.o.trans f4,rfl,H4.o⟩
theorem zpm(h:MAt w mb wb fv m)(hr:m.numberAt 0=some (.ok r))(hl:m.numberAt 1=some (.ok l))(hp:m.s.pop 2=some s1)(hc:MSt.zau ⟨s1,m.o,m.fns⟩ (IntKind.i64.wrap (l*r))=some res):
  Calls prog 141 #[.pointer (some ⟨mb,0,none⟩),.string ⟨#[42]⟩] w fun e w'=>Ends w mb wb fv res e w':=by
 obtain ⟨z,hz⟩:∃ z,IntKind.i64.wrap (l*r)=z:=⟨_,rfl⟩
 try rw[hz]at hc
 have HR:=zab hr;have HL:=zab hl;have HP:=zab hp;have HH:=zab h;have HC:=zab hc;clear h hr hl hp hc;go_enter func141,ntmps141
 go_wp2_with fail
 refine (zaD (d:=0) HH.o HR.o).mono ?_;rintro e w1 ⟨⟨n1,aD⟩,rfl⟩;have H1:Hid (MAt w1 mb wb fv m):=zab (by rw[aD];exact HH.o.drewN n1);have F1:Hid (Fr (MB mb wb fv) w w1):=zab (by rw[aD];exact (Fr.refl _ _).drewN n1);clear aD;go_wp2_with fail
 refine (zaD (d:=1) H1.o HL.o).mono ?_;rintro e w2 ⟨⟨n2,aB⟩,rfl⟩;have H2:Hid (MAt w2 mb wb fv m):=zab (by rw[aB];exact H1.o.drewN n2);have F2:Hid (Fr (MB mb wb fv) w w2):=zab (by rw[aB];exact F1.o.drewN n2);clear aB;go_wp2_with fail
 refine (Sto.zbQ (c:=2) H2.o.sat HP.o).mono ?_;rintro e w3 ⟨rfl,h3,f3⟩;have H3:Hid (MAt w3 mb wb fv { m with s:=s1 }):=zab (H2.o.fr2 h3 f3);have F3:Hid (Fr (MB mb wb fv) w w3):=zab (F2.o.trans (f3.zc9 fv));clear h3 f3;go_wp2_with fail
 refine (zb1 H3.o HC.o).mono ?_;rintro e w4 h4;cases res with
 |error k=>
  obtain ⟨f4,rfl,h4⟩:=h4;exact ⟨rfl,F3.o.trans f4,rfl,h4⟩
 |ok m4=>
  obtain ⟨f4,rfl,h4⟩:=h4;have H4:=zab h4;clear h4;go_wp2_with fail
  first|go_end0|refine bodyPost_ret (results_none rfl _ _ _) rfl ?_
  exact ⟨F3.o.trans f4,rfl,H4.o⟩
theorem znH(h:MAt w mb wb fv m)(hr:m.numberAt 0=some (.ok r))(hl:m.numberAt 1=some (.ok l))(hp:m.s.pop 2=some s1)(hc:MSt.zcN ⟨s1,m.o,m.fns⟩ (decide (l<r))=some res):
  Calls prog 141 #[.pointer (some ⟨mb,0,none⟩),.string ⟨#[60]⟩] w fun e w'=>Ends w mb wb fv res e w':=by
 obtain ⟨z,hz⟩:∃ z,IntKind.i64.wrap l=z:=⟨_,rfl⟩
 try rw[hz]at hc
 have HR:=zab hr;have HL:=zab hl;have HP:=zab hp;have HH:=zab h;have HC:=zab hc;clear h hr hl hp hc;go_enter func141,ntmps141
 go_wp2_with fail
 refine (zaD (d:=0) HH.o HR.o).mono ?_;rintro e w1 ⟨⟨n1,aD⟩,rfl⟩;have H1:Hid (MAt w1 mb wb fv m):=zab (by rw[aD];exact HH.o.drewN n1);have F1:Hid (Fr (MB mb wb fv) w w1):=zab (by rw[aD];exact (Fr.refl _ _).drewN n1);clear aD;go_wp2_with fail
 refine (zaD (d:=1) H1.o HL.o).mono ?_;rintro e w2 ⟨⟨n2,aB⟩,rfl⟩;have H2:Hid (MAt w2 mb wb fv m):=zab (by rw[aB];exact H1.o.drewN n2);have F2:Hid (Fr (MB mb wb fv) w w2):=zab (by rw[aB];exact F1.o.drewN n2);clear aB;go_wp2_with fail
 refine (Sto.zbQ (c:=2) H2.o.sat HP.o).mono ?_;rintro e w3 ⟨rfl,h3,f3⟩;have H3:Hid (MAt w3 mb wb fv { m with s:=s1 }):=zab (H2.o.fr2 h3 f3);have F3:Hid (Fr (MB mb wb fv) w w3):=zab (F2.o.trans (f3.zc9 fv));clear h3 f3;go_wp2_with fail
 refine (zg9 H3.o HC.o).mono ?_;rintro e w4 h4;cases res with
 |error k=>
  obtain ⟨f4,rfl,h4⟩:=h4;exact ⟨rfl,F3.o.trans f4,rfl,h4⟩
 |ok m4=>
  obtain ⟨f4,rfl,h4⟩:=h4;have H4:=zab h4;clear h4;go_wp2_with fail
  first|go_end0|refine bodyPost_ret (results_none rfl _ _ _) rfl ?_
  exact ⟨F3.o.trans f4,rfl,H4.o⟩
theorem znI(h:MAt w mb wb fv m)(hr:m.numberAt 0=some (.ok r))(hl:m.numberAt 1=some (.ok l))(hp:m.s.pop 2=some s1)(hc:MSt.zcN ⟨s1,m.o,m.fns⟩ (decide (l=r))=some res):
  Calls prog 141 #[.pointer (some ⟨mb,0,none⟩),.string ⟨#[61,61]⟩] w fun e w'=>Ends w mb wb fv res e w':=by
 obtain ⟨z,hz⟩:∃ z,IntKind.i64.wrap l=z:=⟨_,rfl⟩
 try rw[hz]at hc
 have HR:=zab hr;have HL:=zab hl;have HP:=zab hp;have HH:=zab h;have HC:=zab hc;clear h hr hl hp hc;go_enter func141,ntmps141
 go_wp2_with fail
 refine (zaD (d:=0) HH.o HR.o).mono ?_;rintro e w1 ⟨⟨n1,aD⟩,rfl⟩;have H1:Hid (MAt w1 mb wb fv m):=zab (by rw[aD];exact HH.o.drewN n1);have F1:Hid (Fr (MB mb wb fv) w w1):=zab (by rw[aD];exact (Fr.refl _ _).drewN n1);clear aD;go_wp2_with fail
 refine (zaD (d:=1) H1.o HL.o).mono ?_;rintro e w2 ⟨⟨n2,aB⟩,rfl⟩;have H2:Hid (MAt w2 mb wb fv m):=zab (by rw[aB];exact H1.o.drewN n2);have F2:Hid (Fr (MB mb wb fv) w w2):=zab (by rw[aB];exact F1.o.drewN n2);clear aB;go_wp2_with fail
 refine (Sto.zbQ (c:=2) H2.o.sat HP.o).mono ?_;rintro e w3 ⟨rfl,h3,f3⟩;have H3:Hid (MAt w3 mb wb fv { m with s:=s1 }):=zab (H2.o.fr2 h3 f3);have F3:Hid (Fr (MB mb wb fv) w w3):=zab (F2.o.trans (f3.zc9 fv));clear h3 f3;go_wp2_with fail
 refine (zg9 H3.o HC.o).mono ?_;rintro e w4 h4;cases res with
 |error k=>
  obtain ⟨f4,rfl,h4⟩:=h4;exact ⟨rfl,F3.o.trans f4,rfl,h4⟩
 |ok m4=>
  obtain ⟨f4,rfl,h4⟩:=h4;have H4:=zab h4;clear h4;go_wp2_with fail
  first|go_end0|refine bodyPost_ret (results_none rfl _ _ _) rfl ?_
  exact ⟨F3.o.trans f4,rfl,H4.o⟩
theorem zpn(h:MAt w mb wb fv m)(hr:m.numberAt 0=some (.ok r))(hl:m.numberAt 1=some (.ok l))(hp:m.s.pop 2=some s1)(fQ:r≠0)(hc:MSt.zau ⟨s1,m.o,m.fns⟩ (IntKind.i64.wrap (Int.tdiv l r))=some res):
  Calls prog 141 #[.pointer (some ⟨mb,0,none⟩),.string ⟨#[47]⟩] w fun e w'=>Ends w mb wb fv res e w':=by
 obtain ⟨z,hz⟩:∃ z,IntKind.i64.wrap (Int.tdiv l r)=z:=⟨_,rfl⟩
 try rw[hz]at hc
 have dd:(r == 0)=false:=by rw[beq_eq_false_iff_ne];exact fQ
 have HR:=zab hr;have HL:=zab hl;have HP:=zab hp;have HH:=zab h;have HC:=zab hc;clear h hr hl hp hc;go_enter func141,ntmps141
 go_wp2_with fail
 refine (zaD (d:=0) HH.o HR.o).mono ?_;rintro e w1 ⟨⟨n1,aD⟩,rfl⟩;have H1:Hid (MAt w1 mb wb fv m):=zab (by rw[aD];exact HH.o.drewN n1);have F1:Hid (Fr (MB mb wb fv) w w1):=zab (by rw[aD];exact (Fr.refl _ _).drewN n1);clear aD;go_wp2_with fail
 refine (zaD (d:=1) H1.o HL.o).mono ?_;rintro e w2 ⟨⟨n2,aB⟩,rfl⟩;have H2:Hid (MAt w2 mb wb fv m):=zab (by rw[aB];exact H1.o.drewN n2);have F2:Hid (Fr (MB mb wb fv) w w2):=zab (by rw[aB];exact F1.o.drewN n2);clear aB;go_wp2_with fail
 refine (Sto.zbQ (c:=2) H2.o.sat HP.o).mono ?_;rintro e w3 ⟨rfl,h3,f3⟩;have H3:Hid (MAt w3 mb wb fv { m with s:=s1 }):=zab (H2.o.fr2 h3 f3);have F3:Hid (Fr (MB mb wb fv) w w3):=zab (F2.o.trans (f3.zc9 fv));clear h3 f3;go_wp2_with fail
 refine (zb1 H3.o HC.o).mono ?_;rintro e w4 h4;cases res with
 |error k=>
  obtain ⟨f4,rfl,h4⟩:=h4;exact ⟨rfl,F3.o.trans f4,rfl,h4⟩
 |ok m4=>
  obtain ⟨f4,rfl,h4⟩:=h4;have H4:=zab h4;clear h4;go_wp2_with fail
  first|go_end0|refine bodyPost_ret (results_none rfl _ _ _) rfl ?_
  exact ⟨F3.o.trans f4,rfl,H4.o⟩
theorem znJ(h:MAt w mb wb fv m)(hr:m.numberAt 0=some (.ok r))(hl:m.numberAt 1=some (.ok l))(hp:m.s.pop 2=some s1)(fQ:r=0)(hc:some (Except.error 3)=some res):
  Calls prog 141 #[.pointer (some ⟨mb,0,none⟩),.string ⟨#[47]⟩] w fun e w'=>Ends w mb wb fv res e w':=by
 subst fQ;obtain rfl:=zyU hc;have HR:=zab hr;have HL:=zab hl;have HP:=zab hp;have HH:=zab h;clear h hr hl hp;go_enter func141,ntmps141
 go_wp2_with fail
 refine (zaD (d:=0) HH.o HR.o).mono ?_;rintro e w1 ⟨⟨n1,aD⟩,rfl⟩;have H1:Hid (MAt w1 mb wb fv m):=zab (by rw[aD];exact HH.o.drewN n1);have F1:Hid (Fr (MB mb wb fv) w w1):=zab (by rw[aD];exact (Fr.refl _ _).drewN n1);clear aD;go_wp2_with fail
 refine (zaD (d:=1) H1.o HL.o).mono ?_;rintro e w2 ⟨⟨n2,aB⟩,rfl⟩;have H2:Hid (MAt w2 mb wb fv m):=zab (by rw[aB];exact H1.o.drewN n2);have F2:Hid (Fr (MB mb wb fv) w w2):=zab (by rw[aB];exact F1.o.drewN n2);clear aB;go_wp2_with fail
 refine (Sto.zbQ (c:=2) H2.o.sat HP.o).mono ?_;rintro e w3 ⟨rfl,h3,f3⟩;have H3:Hid (MAt w3 mb wb fv { m with s:=s1 }):=zab (H2.o.fr2 h3 f3);have F3:Hid (Fr (MB mb wb fv) w w3):=zab (F2.o.trans (f3.zc9 fv));clear h3 f3;go_wp2_with fail
 refine (zce 3 _).mono ?_;rintro e w4 ⟨rfl,rfl⟩;exact ⟨rfl,F3.o,rfl,_,H3.o⟩
variable {sg:ByteArray}
theorem znF(h:MAt w mb wb fv m)(hr:m.numberAt 0=some (.error k)):
  Calls prog 141 #[.pointer (some ⟨mb,0,none⟩),.string sg] w fun e w'=>Ends w mb wb fv (.error k) e w':=by
 have HR:=zab hr;have HH:=zab h;clear h hr;go_enter func141,ntmps141
 go_wp2_with fail
 refine (zaD (d:=0) HH.o HR.o).mono ?_;rintro e w1 ⟨⟨n1,aD⟩,rfl⟩;have H1:Hid (MAt w1 mb wb fv m):=zab (by rw[aD];exact HH.o.drewN n1);have F1:Hid (Fr (MB mb wb fv) w w1):=zab (by rw[aD];exact (Fr.refl _ _).drewN n1);exact ⟨rfl,F1.o,rfl,_,H1.o⟩
theorem znG(h:MAt w mb wb fv m)(hr:m.numberAt 0=some (.ok r))(hl:m.numberAt 1=some (.error k)):
  Calls prog 141 #[.pointer (some ⟨mb,0,none⟩),.string sg] w fun e w'=>Ends w mb wb fv (.error k) e w':=by
 have HR:=zab hr;have HL:=zab hl;have HH:=zab h;clear h hr hl;go_enter func141,ntmps141
 go_wp2_with fail
 refine (zaD (d:=0) HH.o HR.o).mono ?_;rintro e w1 ⟨⟨n1,aD⟩,rfl⟩;have H1:Hid (MAt w1 mb wb fv m):=zab (by rw[aD];exact HH.o.drewN n1);have F1:Hid (Fr (MB mb wb fv) w w1):=zab (by rw[aD];exact (Fr.refl _ _).drewN n1);clear aD;go_wp2_with fail
 refine (zaD (d:=1) H1.o HL.o).mono ?_;rintro e w2 ⟨⟨n2,aB⟩,rfl⟩;have H2:Hid (MAt w2 mb wb fv m):=zab (by rw[aB];exact H1.o.drewN n2);have F2:Hid (Fr (MB mb wb fv) w w2):=zab (by rw[aB];exact F1.o.drewN n2);exact ⟨rfl,F2.o,rfl,_,H2.o⟩
theorem zpl(h:MAt w mb wb fv m)(hc:m.compute sg=some res):
  Calls prog 141 #[.pointer (some ⟨mb,0,none⟩),.string sg] w fun e w'=>Ends w mb wb fv res e w':=by
 unfold MSt.compute at hc;split at hc
 ·cases hc
 ·next k hr=>obtain rfl:=zyU hc;exact znF h hr
 ·next r hr=>
  split at hc
  ·cases hc
  ·next k hl=>obtain rfl:=zyU hc;exact znG h hr hl
  ·next l hl=>
   split at hc
   ·cases hc
   ·next s1 hp=>
    unfold MSt.calc at hc;split at hc
    ·next hs=>subst hs;exact zpk h hr hl hp hc
    ·split at hc
     ·next hs=>subst hs;exact zpp h hr hl hp hc
     ·split at hc
      ·next hs=>subst hs;exact zpm h hr hl hp hc
      ·split at hc
       ·next hs=>
        subst hs;split at hc
        ·next h0=>exact znJ h hr hl hp h0 hc
        ·next h0=>exact zpn h hr hl hp h0 hc
       ·split at hc
        ·next hs=>subst hs;exact znH h hr hl hp hc
        ·split at hc
         ·next hs=>subst hs;exact znI h hr hl hp hc
         ·cases hc
def Sto.update (s:Sto):Option Sto:=
 match s.ws[s.top]? with
 |none=>none
 |some v=>
  match s.ws[s.top+2]? with
  |none=>none
  |some c=>if 0<=v/\v<=1000000/\0<=c/\c<s.ws.length then
    some { s with ws:=(s.ws.set c.toNat (Hd 4 v.toNat 0)).set (s.top+2) v,top:=s.top+2 }
   else none
theorem zsh(h:SAt w mb wb tl s)(hu:s.update=some s'):
  Calls prog 203 #[.pointer (some ⟨mb,0,none⟩)] w fun e w'=>e=.returned (.tuple #[])/\SAt w' mb wb tl s'/\Fr (M2 mb wb) w w':=by
 obtain ⟨ws,hf,lo,fr,t⟩:=s;unfold Sto.update at hu;simp only at hu;split at hu
 ·cases hu
 ·next v hv=>
  split at hu
  ·cases hu
  ·next c hc=>
   split at hu
   ·next hg=>
    obtain rfl:=zyU hu;obtain ⟨v,rfl⟩:∃ a:Nat,v=a:=⟨v.toNat,by omega⟩;obtain ⟨c,rfl⟩:∃ a:Nat,c=a:=⟨c.toNat,by omega⟩;simp only[zy2];have hlen:ws.length<=1000000:=h.len;have cu:t+2<ws.length:=(zyL.1 hc).1;have aN:c<ws.length:=by omega
    obtain ⟨u,eN⟩:∃ u,t+2=u:=⟨_,rfl⟩;have yG:=zab (zaA h 0 _ hv);have HC:=zab hc;have HH:=zab h;have CH:=zab (fun W:World=>zbt 4 v 0 W (by omega) (by omega) (by omega));obtain ⟨z,hz⟩:∃ z,Hd 4 v 0=z:=⟨_,rfl⟩;rw[hz]at CH ⊢;have bT:(c:Int)<(ws.length:Int):=by omega
    have fP:=zcj h.ne;clear h hu hv hc hg hz;go_enter func203,ntmps203
    go_wp2_with fail
    refine yG.o.mono ?_;rintro e w1 ⟨rfl,k1,aD⟩;have H1:Hid (SAt w1 mb wb tl ⟨ws,hf,lo,fr,t⟩):=zab (by rw[aD];exact HH.o.drewN k1);have F1:Hid (Fr (M2 mb wb) w w1):=zab (by rw[aD];exact (Fr.refl _ _).drewN k1);clear aD yG;have c0:=H1.o.c0;simp only at c0;go_wp2_with fail
    go_region_held3 (fun W=>W.cell? ⟨mb,0,none⟩=some (.slice (some ⟨wb,0,none⟩) ws.length ws.length)) (first|go_keep|assumption) (first
     |(go_at_call 75;refine (CH.o _).mono ?_;rintro e w3 ⟨rfl,bL⟩;subst w3)
     |(go_at_call 82;refine (zaA H1.o.drew 2 _ HC.o).mono ?_;rintro e w2 ⟨rfl,k2,aB⟩;have H2:Hid (SAt w2 mb wb tl ⟨ws,hf,lo,fr,t⟩):=zab (by rw[aB];exact H1.o.drew.drewN k2);have F2:Hid (Fr (M2 mb wb) w w2):=zab (by rw[aB];exact F1.o.drew.drewN k2);have d0:=H2.o.c0;have dc:=H2.o.zko (i:=c) aN;have df:=H2.o.zeC.frozen c;simp only at d0 dc;clear aB))
    all_goals
     have H3:=zab (H2.o.zcB c z);have F3:=zab (F2.o.set ⟨wb,c,none⟩ (.int .i64 z) (.inl (.inr rfl)));generalize w2.setCell ⟨wb,c,none⟩ (.int .i64 z)=w3 at H3 F3;clear c0 d0 dc df;go_wp2_with fail
     refine (Go.Proofs.YtgahgkddaljmkaaGreatDoor.zbQ H3.o 2 (by simp only;omega)).mono ?_;rintro e w4 ⟨rfl,h4,f4⟩;have H4:=zab h4;have F4:=zab (F3.o.trans f4);have c0:=h4.c0;have c4:=h4.c4;simp only[eN]at c4;have ct:=h4.zko (i:=u) (by simp only[zy6];omega);have cf:=h4.zeC.frozen u;simp only[zy6]at c0;clear h4 f4;have p9:(u:Int)<(ws.length:Int):=by omega
     have AP:(0:Int)<=(u:Int):=by omega
     go_wp2_with fail
     go_region_held3 (fun W=>W.cell? ⟨mb,0,none⟩=some (.slice (some ⟨wb,0,none⟩) ws.length ws.length)/\W.cell? ⟨mb,4,none⟩=some (.int .i64 u)) (first|go_keep|(refine ⟨?_,?_⟩ <;> assumption)) (fail)
     all_goals
      go_wp2_with fail
      first|go_end0|refine bodyPost_ret (results_none rfl _ _ _) rfl ?_
      refine ⟨rfl,?_,F4.o.drew.set _ _ (.inl (.inr rfl))⟩;have:=H4.o.drew.zcB u v;simp only[eN]at this ⊢;exact this
   ·cases hu
end Go.Proofs.YtgahgkddaljmkaaGreatDoor
