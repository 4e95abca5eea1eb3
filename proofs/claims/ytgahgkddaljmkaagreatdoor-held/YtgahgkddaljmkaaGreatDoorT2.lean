/- Mach12 .. Mach25 -/
import Derived.Test.YtgahgkddaljmkaaGreatDoorT1
set_option maxRecDepth 100000
set_option maxHeartbeats 4000000
namespace Go.Proofs.YtgahgkddaljmkaaGreatDoor
open Tryz
open Go.RowKit
attribute [local go_sem ↓] Go.wp_at_zero Go.wp_at_succ
variable {w:World}{mb wb:Nat}{fv:Value}{s:Sto}
theorem SAt.c5{o:Oth}(h:SAt w mb wb (zeu o fv) s):w.cell? ⟨mb,5,none⟩=some o.pb:=h.blk.cell 5
theorem SAt.c10{o:Oth}(h:SAt w mb wb (zeu o fv) s):w.cell? ⟨mb,10,none⟩=some (.int .i64 o.next):=h.blk.cell 10
theorem SAt.c11{o:Oth}(h:SAt w mb wb (zeu o fv) s):w.cell? ⟨mb,11,none⟩=some (.int .i64 o.below):=h.blk.cell 11
variable {m:MSt}
theorem zlc(h:MAt w mb wb fv m){b:Nat}(hb:m.o.below=b)(aA:b<=2000000):
  Calls prog 207 #[.pointer (some ⟨mb,0,none⟩)] w fun e w'=>e=.returned (.int .i64 ((m.s.low:Int)+(m.s.half:Int)-(b:Int)))/\∃ n,w'=w.drewN n:=by
 have c11:=h.sat.c11;rw[hb]at c11;have b1:=h.sat.half;have b2:=h.sat.low;have CE:=zab (fun n:Nat=>zhJ (h.sat.drewN n));simp only[zzq]at CE;clear h hb;go_enter func207,ntmps207
 go_wp2_with fail
 go_quiet ((go_at_call 78;exact Calls.quiet_of (CE.o _)))
 go_wp2_with fail
 go_ret
 exact ⟨by simp,_,rfl⟩
def MSt.slot (m:MSt) (k:Nat):Option Nat:=if 0<=m.o.below/\m.o.below+1+(k:Int)<=(m.s.low:Int)+(m.s.half:Int) then some ((m.s.low:Int)+(m.s.half:Int)-m.o.below-1-(k:Int)).toNat else none
variable {k:Nat}
theorem zqT{i:Nat}(h:m.slot k=some i):∃ b:Nat,m.o.below=b/\b+1+k+i=m.s.low+m.s.half:=by
 unfold MSt.slot at h;split at h
 ·next hg=>
  obtain rfl:=zyU h;exact ⟨m.o.below.toNat,by omega,by omega⟩
 ·cases h
theorem zqS(h:MAt w mb wb fv m){i:Nat}(hk:m.slot k=some i):
  Calls prog 131 #[.pointer (some ⟨mb,0,none⟩),.int .i64 k] w fun e w'=>e=.returned (.int .i64 i)/\∃ n,w'=w.drewN n:=by
 obtain ⟨b,hb,hs⟩:=zqT hk;have b1:=h.sat.half;have b2:=h.sat.low;have CB:=zab (zlc h hb (by omega));have he:(m.s.low:Int)+(m.s.half:Int)-(b:Int)=1+(k:Int)+(i:Int):=by omega
 rw[he]at CB;have b3:(k:Int)+(i:Int)<=2000000:=by omega
 clear h hk hb hs he b1 b2;go_enter func131,ntmps131
 go_wp2_with fail
 refine CB.o.mono ?_;rintro e w1 ⟨rfl,n,rfl⟩;go_wp2_with fail
 go_ret
 exact ⟨zeW (by omega),_,rfl⟩
def MSt.numberAt (m:MSt) (d:Nat):Option (Except Nat Int):=
 match m.s.ws[m.s.top+d]? with
 |none=>none
 |some x=>if x<0 then none else
  match m.s.ws[x.toNat]? with
  |none=>none
  |some y=>if y<0\/9223372036854775808<=y then none else
   if y%16=0 then
    match m.s.ws[x.toNat+1]? with
    |none=>none
    |some v=>some (.ok v)
   else some (.error 3)
def zw5 (r:Except Nat Int) (e:Ending):Prop:=
 match r with
 |.ok v=>e=.returned (.int .i64 v)
 |.error k=>e=up k
theorem zaD(h:MAt w mb wb fv m){d:Nat}{r:Except Nat Int}(hr:m.numberAt d=some r):
  Calls prog 140 #[.pointer (some ⟨mb,0,none⟩),.int .i64 d] w fun e w'=>(∃ n,w'=w.drewN n)/\zw5 r e:=by
 unfold MSt.numberAt at hr;split at hr
 ·cases hr
 ·next x hx=>
  split at hr
  ·cases hr
  ·next cX=>
   split at hr
   ·cases hr
   ·next y hy=>
    split at hr
    ·cases hr
    ·next aT=>
     obtain ⟨a,rfl⟩:∃ a:Nat,x=a:=⟨x.toNat,by omega⟩;simp only[zy2]at hy hr;have CA:=zab (zaA h.sat d _ hx);have aU:=(zyL.1 hy).1;have eo:(a:Int)<(m.s.ws.length:Int):=by omega
     have hlen:=h.sat.len;have HH:=zab h;have CK:=zab (fun W:World=>za4 y W (by omega) (by omega));have HY:=zab hy;clear h hx cX hy;by_cases hk:y%16=0
     ·rw[if_pos hk]at hr;split at hr
      ·cases hr
      ·next v hv=>
       obtain rfl:=zyU hr;rw[hk]at CK;have ji:=(zyL.1 hv).1;have Ac:(a:Int)+1<(m.s.ws.length:Int):=by omega
       have HV:=zab hv;clear hr hk hv aT;go_enter func140,ntmps140
       go_wp2_with fail
       refine CA.o.mono ?_;rintro e w1 ⟨rfl,n,aD⟩;have H1:Hid (MAt w1 mb wb fv m):=zab (by rw[aD];exact HH.o.drewN n);have HW:=zab aD;clear aD;have c0:=H1.o.sat.c0;have ca:=H1.o.sat.word HY.o;have cb:=H1.o.sat.word HV.o;go_wp2_with fail
       refine (CK.o _).mono ?_;rintro e w2 ⟨rfl,rfl⟩;go_wp2_with fail
       go_ret
       exact ⟨⟨n,HW.o⟩,rfl⟩
     ·rw[if_neg hk]at hr;obtain rfl:=zyU hr;have lj:(y%16 == 0)=false:=by rw[beq_eq_false_iff_ne];exact hk
      have dF:0<=y%16:=by omega
      have cK:y%16<16:=by omega
      generalize y%16=z at CK hk lj dF cK;clear hr hk aT;go_enter func140,ntmps140
      go_wp2_with fail
      refine CA.o.mono ?_;rintro e w1 ⟨rfl,n,aD⟩;have H1:Hid (MAt w1 mb wb fv m):=zab (by rw[aD];exact HH.o.drewN n);have HW:=zab aD;clear aD;have c0:=H1.o.sat.c0;have ca:=H1.o.sat.word HY.o;go_wp2_with fail
      refine (CK.o _).mono ?_;rintro e w2 ⟨rfl,rfl⟩;go_wp2_with fail
      refine (zce 3 _).mono ?_;rintro e w4 ⟨rfl,rfl⟩;exact ⟨rfl,⟨n,HW.o⟩,rfl⟩
def Sto.push (s:Sto) (x:Int):Option Sto:=if 1<=s.top/\s.top<=s.ws.length then some { s with top:=s.top-1,ws:=s.ws.set (s.top-1) x } else none
def Sto.node (s:Sto) (hd:Int) (xs:List Int):Option Sto:=if s.free+1+xs.length<=s.ws.length then some { s with free:=s.free+1+xs.length,ws:=Go.splice (s.ws.set s.free hd) (s.free+1) xs } else none
def Sto.pop (s:Sto) (c:Nat):Option Sto:=if s.top+c<=1000000 then some { s with top:=s.top+c } else none
theorem Sto.zb5{w:World}{mb wb:Nat}{tl:List Value}{s s':Sto}(h:SAt w mb wb tl s){x:Int}(hx:s.push x=some s'):
  Calls prog 76 #[.pointer (some ⟨mb,0,none⟩),.int .i64 x] w fun e w'=>e=.returned (.tuple #[])/\SAt w' mb wb tl s'/\Fr (M2 mb wb) w w':=by
 unfold Sto.push at hx;split at hx
 ·next hg=>
  obtain rfl:=zyU hx;exact Go.Proofs.YtgahgkddaljmkaaGreatDoor.zb5 h x hg.1 hg.2
 ·cases hx
theorem Sto.zbQ{w:World}{mb wb:Nat}{tl:List Value}{s s':Sto}(h:SAt w mb wb tl s){c:Nat}(hx:s.pop c=some s'):
  Calls prog 137 #[.pointer (some ⟨mb,0,none⟩),.int .i64 c] w fun e w'=>e=.returned (.tuple #[])/\SAt w' mb wb tl s'/\Fr (M2 mb wb) w w':=by
 unfold Sto.pop at hx;split at hx
 ·next hg=>
  obtain rfl:=zyU hx;exact Go.Proofs.YtgahgkddaljmkaaGreatDoor.zbQ h c hg
 ·cases hx
theorem Sto.zej{w:World}{mb wb:Nat}{tl:List Value}{s s':Sto}(h:SAt w mb wb tl s){hd:Int}{xs:List Int}{sp:Option Addr}{cp:Nat}(hx:s.node hd xs=some s')(dX:0<xs.length->∃ ad,sp=some ad/\∀ (W:World),SAt W mb wb tl { s with ws:=s.ws.set s.free hd }->Fr (M2 mb wb) w W->∀ (j:Nat) x,xs[j]?=some x->W.cell? (ad.add j)=some (.int .i64 x)):
  Calls prog 74 #[.pointer (some ⟨mb,0,none⟩),.int .i64 hd,.slice sp xs.length cp] w fun e w'=>e=.returned (.int .i64 s.free)/\SAt w' mb wb tl s'/\Fr (M2 mb wb) w w':=by
 unfold Sto.node at hx;split at hx
 ·next hg=>
  obtain rfl:=zyU hx;exact Go.Proofs.YtgahgkddaljmkaaGreatDoor.zej h hd xs sp cp hg dX
 ·cases hx
variable {tl:List Value}{s':Sto}{hd:Int}
theorem Sto.zvV(h:SAt w mb wb tl s){v:Int}(hx:s.node hd [v]=some s'):
  Calls prog 74 #[.pointer (some ⟨mb,0,none⟩),.int .i64 hd,.slice (some ⟨w.heap.size,0,none⟩) 1 1] (w.alloc (Obj.cells #[.int .i64 v] 2)).drew fun e w'=>e=.returned (.int .i64 s.free)/\SAt w' mb wb tl s'/\Fr (M2 mb wb) w w':=by
 have f0:Fr (M2 mb wb) w (w.alloc (Obj.cells #[.int .i64 v] 2)).drew:=((Fr.refl _ _).alloc _).drew;have h0:=(h.below (zam w (Obj.cells #[.int .i64 v] 2))).drew;have hn:Blk (w.alloc (Obj.cells #[.int .i64 v] 2)).drew w.heap.size [.int .i64 v] 2:=(Blk.new w [.int .i64 v] 2).drew;have hm:=h.blk.lt;have hw:=h.zeC.lt;refine (Sto.zej (sp:=some ⟨w.heap.size,0,none⟩) (cp:=1) h0 hx (fun _=>⟨_,rfl,fun W _ fW j x hj=>?_⟩)).mono ?_
 ·have hb:=Fr.blk hn fW (by unfold M2;omega)
  match j,hj with
  |0,hj=>
   simp only[zzl,zyP]at hj;subst hj;rw[zbe];exact hb.cell 0
 ·rintro e w' ⟨rfl,q1,q2⟩;exact ⟨rfl,q1,f0.trans q2⟩
def Sto.words (s:Sto) (o c:Nat):List Int:=(s.ws.drop o).take c
variable {o c:Nat}
theorem Sto.zcR(h:o+c<=s.ws.length):(s.words o c).length=c:=by unfold Sto.words;rw[zzf,zzu];omega
theorem Sto.zd7{j:Nat}{x:Int}(h:(s.words o c)[j]?=some x):j<c/\s.ws[o+j]?=some x:=by
 unfold Sto.words at h;rw[zzy]at h;split at h
 ·next hj=>rw[zzx]at h;exact ⟨hj,h⟩
 ·cases h
variable {cp:Nat}
theorem Sto.zqI(h:SAt w mb wb tl s){o':Nat}(hx:s.node hd (s.words o c)=some s')(hf:s.free<o\/o+c<=s.free)(ho:o+c<=s.ws.length)(uO:0<c->o'=o):
  Calls prog 74 #[.pointer (some ⟨mb,0,none⟩),.int .i64 hd,.slice (some ⟨wb,o',none⟩) c cp] w fun e w'=>e=.returned (.int .i64 s.free)/\SAt w' mb wb tl s'/\Fr (M2 mb wb) w w':=by
 have:=Sto.zej (sp:=some ⟨wb,o',none⟩) (cp:=cp) h hx (fun h0=>⟨_,rfl,fun W hW _ j x hj=>by
  rw[Sto.zcR ho]at h0;obtain ⟨sy,lh⟩:=Sto.zd7 hj;rw[zbe,uO h0];refine hW.word ?_;simp only;rw[zAo (by omega)];exact lh⟩)
 rw[Sto.zcR ho]at this;exact this
def Sto.zek (s:Sto) (xs:List Int):Option Sto:=if xs.length<=s.top/\s.top<=s.ws.length then some { s with top:=s.top-xs.length,ws:=Go.splice s.ws (s.top-xs.length) xs } else none
theorem Sto.zel(h:SAt w mb wb tl s){xs:List Int}{o':Nat}(hx:s.zek xs=some s')(tG:xs=s.words o c)(ho:o+c<=s.ws.length)(uO:0<c->o'=o):
  Calls prog 201 #[.pointer (some ⟨mb,0,none⟩),.slice (some ⟨wb,o',none⟩) c cp] w fun e w'=>e=.returned (.tuple #[])/\SAt w' mb wb tl s'/\Fr (M2 mb wb) w w':=by
 subst tG;unfold Sto.zek at hx;split at hx
 ·next hg=>
  obtain rfl:=zyU hx;have:=zpK h (s.words o c) (some ⟨wb,o',none⟩) cp (fun h0=>⟨_,rfl,fun W hW _ j x hj=>by
   rw[Sto.zcR ho]at h0;obtain ⟨sy,lh⟩:=Sto.zd7 hj;rw[zbe,uO h0];exact hW.word lh⟩) hg.1 hg.2
  simp only[Sto.zcR ho]at this ⊢;exact this
 ·cases hx
def aft (r:Option (Except Nat MSt)) (f:MSt->Option (Except Nat MSt)):Option (Except Nat MSt):=
 match r with
 |none=>none
 |some (.error k)=>some (.error k)
 |some (.ok m)=>f m
def MSt.put (m:MSt) (s:Option Sto):Option (Except Nat MSt):=s.map fun q=>.ok { m with s:=q }
def MSt.zau (m:MSt) (v:Int):Option (Except Nat MSt):=aft (m.zdI 3) fun m1=>m1.put ((m1.s.node 0 [v]).bind fun s=>s.push m1.s.free)
theorem hdr0:Hd 0 0 0=0:=rfl
variable {r:Except Nat MSt}
theorem zb1(h:MAt w mb wb fv m){v:Int}(hc:m.zau v=some r):
  Calls prog 132 #[.pointer (some ⟨mb,0,none⟩),.int .i64 v] w fun e w'=>Ends w mb wb fv r e w':=by
 unfold MSt.zau aft at hc;split at hc
 ·cases hc
 ·next k hn=>
  obtain rfl:=zyU hc;have CN:=zab (zaW h hn);clear h hn hc;go_enter func132,ntmps132
  go_wp2_with fail
  refine CN.o.mono ?_;rintro e w1 ⟨f1,rfl,h1⟩;exact ⟨rfl,f1,rfl,h1⟩
 ·next m1 hn=>
  have CN:=zab (zaW h hn);simp only[MSt.put,zyX,zyQ]at hc;obtain ⟨s3,⟨s2,bg,aM⟩,rfl⟩:=hc;have HN:=zab bg;have pH:=zab aM;clear h hn bg aM;go_enter func132,ntmps132
  go_wp2_with fail
  refine CN.o.mono ?_;rintro e w1 ⟨f1,rfl,h1⟩;have F1:=zab f1;have H1:=zab h1;clear f1 h1 CN;go_wp2_with fail
  go_region_held3 (fun _=>True) (trivial) (first
   |(go_at_call 75;refine (zbt 0 0 0 _ (by omega) (by omega) (by omega)).mono ?_;rintro e w2 ⟨rfl,rfl⟩;rw[hdr0])
   |(go_at_call 74;refine (Sto.zvV H1.o.sat HN.o).mono ?_;rintro e w3 ⟨rfl,h3,f3⟩;have H3:=zab h3;have F3:=zab f3;clear h3 f3)
   |(go_at_call 76;refine (Sto.zb5 H3.o pH.o).mono ?_;rintro e w4 ⟨rfl,h4,f4⟩;have H4:=zab h4;have F4:=zab (F3.o.trans f4);clear h4 f4))
  all_goals
   go_wp2_with fail
   first|go_end0|refine bodyPost_ret (results_none rfl _ _ _) rfl ?_
   exact ⟨F1.o.trans (F4.o.zc9 fv),rfl,H1.o.fr2 H4.o F4.o⟩
def MSt.build (m:MSt) (hd:Int) (c:Nat):Option (Except Nat MSt):=aft (m.zdI (c+2)) fun m1=>
 if m1.s.free<m1.s.top/\m1.s.top+c<=m1.s.ws.length then m1.put ((m1.s.node hd (m1.s.words m1.s.top c)).bind fun s=>(s.pop c).bind fun q=>q.push m1.s.free) else none
theorem zgP(h:MAt w mb wb fv m)(jl:c<=1000000)(hc:m.build hd c=some r):
  Calls prog 133 #[.pointer (some ⟨mb,0,none⟩),.int .i64 hd,.int .i64 c] w fun e w'=>Ends w mb wb fv r e w':=by
 unfold MSt.build aft at hc;split at hc
 ·cases hc
 ·next k hn=>
  obtain rfl:=zyU hc;have CN:=zab (zaW h hn);simp only[zzq,zzJ]at CN;clear h hn hc;go_enter func133,ntmps133
  go_wp2_with fail
  refine CN.o.mono ?_;rintro e w1 ⟨f1,rfl,h1⟩;exact ⟨rfl,f1,rfl,h1⟩
 ·next m1 hn=>
  have CN:=zab (zaW h hn);simp only[zzq,zzJ]at CN;dsimp only at hc;split at hc
  ·next hg=>
   simp only[MSt.put,zyX,zyQ]at hc;obtain ⟨s4,⟨s2,bg,s3,dW,aM⟩,rfl⟩:=hc;have HN:=zab bg;have Ct:=zab dW;have pH:=zab aM;have HG:=zab hg;clear h hn bg dW aM hg;go_enter func133,ntmps133
   go_wp2_with fail
   refine CN.o.mono ?_;rintro e w1 ⟨f1,rfl,h1⟩;have F1:=zab f1;have H1:=zab h1;clear f1 h1 CN;go_wp2_with fail
   go_region_held3 (fun _=>True) (trivial) (first
    |(go_at_call 136;refine (zeZ (H1.o.sat.drew) c HG.o.2).mono ?_;rintro e w2 ⟨rfl,k2,aB⟩;have H2:Hid (SAt w2 mb wb (zeu m1.o fv) m1.s):=zab (by rw[aB];exact H1.o.sat.drew.drewN k2);have F2:Hid (Fr (M2 mb wb) w1 w2):=zab (by rw[aB];exact (Fr.refl _ _).drew.drewN k2);clear aB)
    |(go_at_call 74;refine (Sto.zqI H2.o HN.o (.inl HG.o.1) HG.o.2 (fun h0=>zbT (by have:=HG.o.2;omega))).mono ?_;rintro e w3 ⟨rfl,h3,f3⟩;have H3:=zab h3;have F3:=zab (F2.o.trans f3);clear h3 f3))
   all_goals
    go_wp2_with fail
    refine (Sto.zbQ H3.o Ct.o).mono ?_;rintro e w4 ⟨rfl,h4,f4⟩;have H4:=zab h4;have F4:=zab (F3.o.trans f4);clear h4 f4;go_wp2_with fail
    refine (Sto.zb5 H4.o pH.o).mono ?_;rintro e w5 ⟨rfl,h5,f5⟩;have H5:=zab h5;have F5:=zab (F4.o.trans f5);clear h5 f5;go_wp2_with fail
    first|go_end0|refine bodyPost_ret (results_none rfl _ _ _) rfl ?_
    exact ⟨F1.o.trans (F5.o.zc9 fv),rfl,H1.o.fr2 H5.o F5.o⟩
  ·cases hc
def MSt.zcN (m:MSt) (b:Bool):Option (Except Nat MSt):=m.build (Hd 1 (if b then 2 else 1) 0) 0
theorem zkG(h:MAt w mb wb fv m)(hc:m.build (Hd 1 2 0) 0=some r):
  Calls prog 208 #[.pointer (some ⟨mb,0,none⟩),.bool true] w fun e w'=>Ends w mb wb fv r e w':=by
 have CB:=zab (zgP h (by omega) hc);have CH:=zab (fun W:World=>zbt 1 2 0 W (by omega) (by omega) (by omega));generalize Hd 1 2 0=z at CB CH;clear h hc;go_enter func208,ntmps208
 go_wp2_with fail
 refine (CH.o _).mono ?_;rintro e w2 ⟨rfl,rfl⟩;go_wp2_with fail
 refine CB.o.mono ?_;rintro e w3 h3;cases r with
 |error k=>
  obtain ⟨f3,rfl,h3⟩:=h3;exact ⟨rfl,f3,rfl,h3⟩
 |ok m3=>
  obtain ⟨f3,rfl,h3⟩:=h3;have H3:=zab h3;clear h3;go_wp2_with fail
  first|go_end0|refine bodyPost_ret (results_none rfl _ _ _) rfl ?_
  exact ⟨f3,rfl,H3.o⟩
theorem zjE(h:MAt w mb wb fv m)(hc:m.build (Hd 1 1 0) 0=some r):
  Calls prog 208 #[.pointer (some ⟨mb,0,none⟩),.bool false] w fun e w'=>Ends w mb wb fv r e w':=by
 have CB:=zab (zgP h (by omega) hc);have CH:=zab (fun W:World=>zbt 1 1 0 W (by omega) (by omega) (by omega));generalize Hd 1 1 0=z at CB CH;clear h hc;go_enter func208,ntmps208
 go_wp2_with fail
 refine (CH.o _).mono ?_;rintro e w2 ⟨rfl,rfl⟩;go_wp2_with fail
 refine CB.o.mono ?_;rintro e w3 h3;cases r with
 |error k=>
  obtain ⟨f3,rfl,h3⟩:=h3;exact ⟨rfl,f3,rfl,h3⟩
 |ok m3=>
  obtain ⟨f3,rfl,h3⟩:=h3;have H3:=zab h3;clear h3;go_wp2_with fail
  first|go_end0|refine bodyPost_ret (results_none rfl _ _ _) rfl ?_
  exact ⟨f3,rfl,H3.o⟩
theorem zg9(h:MAt w mb wb fv m){b:Bool}(hc:m.zcN b=some r):
  Calls prog 208 #[.pointer (some ⟨mb,0,none⟩),.bool b] w fun e w'=>Ends w mb wb fv r e w':=by
 cases b
 ·exact zjE h hc
 ·exact zkG h hc
def MSt.calc (m:MSt) (sg:ByteArray) (l r:Int):Option (Except Nat MSt):=
 if sg=⟨#[43]⟩ then m.zau (IntKind.i64.wrap (l+r)) else
 if sg=⟨#[45]⟩ then m.zau (IntKind.i64.wrap (l-r)) else
 if sg=⟨#[42]⟩ then m.zau (IntKind.i64.wrap (l*r)) else
 if sg=⟨#[47]⟩ then (if r=0 then some (.error 3) else m.zau (IntKind.i64.wrap (Int.tdiv l r))) else
 if sg=⟨#[60]⟩ then m.zcN (decide (l<r)) else
 if sg=⟨#[61,61]⟩ then m.zcN (decide (l=r)) else none
def MSt.compute (m:MSt) (sg:ByteArray):Option (Except Nat MSt):=
 match m.numberAt 0 with
 |none=>none
 |some (.error k)=>some (.error k)
 |some (.ok r)=>
  match m.numberAt 1 with
  |none=>none
  |some (.error k)=>some (.error k)
  |some (.ok l)=>
   match m.s.pop 2 with
   |none=>none
   |some s1=>MSt.calc { m with s:=s1 } sg l r
variable {l:Int}{sg:ByteArray}{res:Except Nat MSt}
theorem zFS{r:Int}(hc:m.calc sg l r=some res):(sg=⟨#[47]⟩/\r=0/\res=.error 3)\/(sg=⟨#[43]⟩/\m.zau (IntKind.i64.wrap (l+r))=some res)\/(sg=⟨#[45]⟩/\m.zau (IntKind.i64.wrap (l-r))=some res)\/(sg=⟨#[42]⟩/\m.zau (IntKind.i64.wrap (l*r))=some res)\/(sg=⟨#[47]⟩/\r≠0/\m.zau (IntKind.i64.wrap (Int.tdiv l r))=some res)\/(sg=⟨#[60]⟩/\m.zcN (decide (l<r))=some res)\/(sg=⟨#[61,61]⟩/\m.zcN (decide (l=r))=some res):=by
 unfold MSt.calc at hc;split at hc
 ·next hs=>exact .inr (.inl ⟨hs,hc⟩)
 ·split at hc
  ·next hs=>exact .inr (.inr (.inl ⟨hs,hc⟩))
  ·split at hc
   ·next hs=>exact .inr (.inr (.inr (.inl ⟨hs,hc⟩)))
   ·split at hc
    ·next hs=>
     split at hc
     ·next h0=>exact .inl ⟨hs,h0,(zyU hc).symm⟩
     ·next h0=>exact .inr (.inr (.inr (.inr (.inl ⟨hs,h0,hc⟩))))
    ·split at hc
     ·next hs=>exact .inr (.inr (.inr (.inr (.inr (.inl ⟨hs,hc⟩)))))
     ·split at hc
      ·next hs=>exact .inr (.inr (.inr (.inr (.inr (.inr ⟨hs,hc⟩)))))
      ·cases hc
theorem zFU{r:Int}{s1:Sto}(h:MAt w mb wb fv m)(hr:m.numberAt 0=some (.ok r))(hl:m.numberAt 1=some (.ok l))(hp:m.s.pop 2=some s1)(hc:MSt.calc ⟨s1,m.o,m.fns⟩ sg l r=some res):
  Calls prog 141 #[.pointer (some ⟨mb,0,none⟩),.string sg] w fun e w'=>Ends w mb wb fv res e w':=by
 have HR:=zab hr;have HL:=zab hl;have HP:=zab hp;have HH:=zab h;have HC:=zab (zFS hc);clear h hr hl hp hc;go_enter func141,ntmps141
 go_wp2_with fail
 refine (zaD (d:=0) HH.o HR.o).mono ?_;rintro e w1 ⟨⟨n1,aD⟩,rfl⟩;have H1:Hid (MAt w1 mb wb fv m):=zab (by rw[aD];exact HH.o.drewN n1);have F1:Hid (Fr (MB mb wb fv) w w1):=zab (by rw[aD];exact (Fr.refl _ _).drewN n1);clear aD;go_wp2_with fail
 refine (zaD (d:=1) H1.o HL.o).mono ?_;rintro e w2 ⟨⟨n2,aB⟩,rfl⟩;have H2:Hid (MAt w2 mb wb fv m):=zab (by rw[aB];exact H1.o.drewN n2);have F2:Hid (Fr (MB mb wb fv) w w2):=zab (by rw[aB];exact F1.o.drewN n2);clear aB;go_wp2_with fail
 refine (Sto.zbQ (c:=2) H2.o.sat HP.o).mono ?_;rintro e w3 ⟨rfl,h3,f3⟩;have H3:Hid (MAt w3 mb wb fv { m with s:=s1 }):=zab (H2.o.fr2 h3 f3);have F3:Hid (Fr (MB mb wb fv) w w3):=zab (F2.o.trans (f3.zc9 fv));have hc:=HC.o;clear h3 f3 HC;obtain ⟨rfl,rfl,rfl⟩|⟨rfl,hc⟩|⟨rfl,hc⟩|⟨rfl,hc⟩|⟨rfl,fQ,hc⟩|⟨rfl,hc⟩|⟨rfl,hc⟩:=hc
 ·go_wp2_with fail
  refine (zce 3 _).mono ?_;rintro e w4 ⟨rfl,rfl⟩;exact ⟨rfl,F3.o,rfl,_,H3.o⟩
 all_goals
  obtain ⟨z,hz⟩:∃ z,IntKind.i64.wrap (l+r)=z:=⟨_,rfl⟩;obtain ⟨y,hy⟩:∃ z,IntKind.i64.wrap (l-r)=z:=⟨_,rfl⟩;obtain ⟨x,hx⟩:∃ z,IntKind.i64.wrap (l*r)=z:=⟨_,rfl⟩;obtain ⟨v,hv⟩:∃ z,IntKind.i64.wrap (Int.tdiv l r)=z:=⟨_,rfl⟩
  try have dd:(r == 0)=false:=by rw[beq_eq_false_iff_ne];exact fQ
  first|rw[hz]at hc|rw[hy]at hc|rw[hx]at hc|rw[hv]at hc|skip
  have HC:=zab hc;clear hc;go_wp2_with fail
  first|refine (zg9 H3.o HC.o).mono ?_|refine (zb1 H3.o HC.o).mono ?_
  rintro e w4 h4;cases res with
  |error k=>
   obtain ⟨f4,rfl,h4⟩:=h4;exact ⟨rfl,F3.o.trans f4,rfl,h4⟩
  |ok m4=>
   obtain ⟨f4,rfl,h4⟩:=h4;have H4:=zab h4;clear h4;go_wp2_with fail
   first|go_end0|refine bodyPost_ret (results_none rfl _ _ _) rfl ?_
   exact ⟨F3.o.trans f4,rfl,H4.o⟩
theorem znF(h:MAt w mb wb fv m)(hr:m.numberAt 0=some (.error k)):
  Calls prog 141 #[.pointer (some ⟨mb,0,none⟩),.string sg] w fun e w'=>Ends w mb wb fv (.error k) e w':=by
 have HR:=zab hr;have HH:=zab h;clear h hr;go_enter func141,ntmps141
 go_wp2_with fail
 refine (zaD (d:=0) HH.o HR.o).mono ?_;rintro e w1 ⟨⟨n1,aD⟩,rfl⟩;have H1:Hid (MAt w1 mb wb fv m):=zab (by rw[aD];exact HH.o.drewN n1);have F1:Hid (Fr (MB mb wb fv) w w1):=zab (by rw[aD];exact (Fr.refl _ _).drewN n1);exact ⟨rfl,F1.o,rfl,_,H1.o⟩
theorem znG{r:Int}(h:MAt w mb wb fv m)(hr:m.numberAt 0=some (.ok r))(hl:m.numberAt 1=some (.error k)):
  Calls prog 141 #[.pointer (some ⟨mb,0,none⟩),.string sg] w fun e w'=>Ends w mb wb fv (.error k) e w':=by
 have HR:=zab hr;have HL:=zab hl;have HH:=zab h;clear h hr hl;go_enter func141,ntmps141
 go_wp2_with fail
 refine (zaD (d:=0) HH.o HR.o).mono ?_;rintro e w1 ⟨⟨n1,aD⟩,rfl⟩;have H1:Hid (MAt w1 mb wb fv m):=zab (by rw[aD];exact HH.o.drewN n1);have F1:Hid (Fr (MB mb wb fv) w w1):=zab (by rw[aD];exact (Fr.refl _ _).drewN n1);clear aD;go_wp2_with fail
 refine (zaD (d:=1) H1.o HL.o).mono ?_;rintro e w2 ⟨⟨n2,aB⟩,rfl⟩;have H2:Hid (MAt w2 mb wb fv m):=zab (by rw[aB];exact H1.o.drewN n2);have F2:Hid (Fr (MB mb wb fv) w w2):=zab (by rw[aB];exact F1.o.drewN n2);exact ⟨rfl,F2.o,rfl,_,H2.o⟩
theorem zpl(h:MAt w mb wb fv m)(hc:m.compute sg=some res):
  Calls prog 141 #[.pointer (some ⟨mb,0,none⟩),.string sg] w fun e w'=>Ends w mb wb fv res e w':=by
 unfold MSt.compute at hc;split at hc
 ·cases hc
 ·next k hr=>obtain rfl:=zyU hc;exact znF h hr
 ·next r hr=>
  split at hc
  ·cases hc
  ·next k hl=>obtain rfl:=zyU hc;exact znG h hr hl
  ·next l hl=>
   split at hc
   ·cases hc
   ·next s1 hp=>
    exact zFU h hr hl hp hc
def Sto.update (s:Sto):Option Sto:=
 match s.ws[s.top]? with
 |none=>none
 |some v=>
  match s.ws[s.top+2]? with
  |none=>none
  |some c=>if 0<=v/\v<=1000000/\0<=c/\c<s.ws.length then
    some { s with ws:=(s.ws.set c.toNat (Hd 4 v.toNat 0)).set (s.top+2) v,top:=s.top+2 }
   else none
theorem zsh(h:SAt w mb wb tl s)(hu:s.update=some s'):
  Calls prog 203 #[.pointer (some ⟨mb,0,none⟩)] w fun e w'=>e=.returned (.tuple #[])/\SAt w' mb wb tl s'/\Fr (M2 mb wb) w w':=by
 obtain ⟨ws,hf,lo,fr,t⟩:=s;unfold Sto.update at hu;simp only at hu;split at hu
 ·cases hu
 ·next v hv=>
  split at hu
  ·cases hu
  ·next c hc=>
   split at hu
   ·next hg=>
    obtain rfl:=zyU hu;obtain ⟨v,rfl⟩:∃ a:Nat,v=a:=⟨v.toNat,by omega⟩;obtain ⟨c,rfl⟩:∃ a:Nat,c=a:=⟨c.toNat,by omega⟩;simp only[zy2];have hlen:ws.length<=1000000:=h.len;have cu:t+2<ws.length:=(zyL.1 hc).1;have aN:c<ws.length:=by omega
    obtain ⟨u,eN⟩:∃ u,t+2=u:=⟨_,rfl⟩;have yG:=zab (zaA h 0 _ hv);have HC:=zab hc;have HH:=zab h;have CH:=zab (fun W:World=>zbt 4 v 0 W (by omega) (by omega) (by omega));obtain ⟨z,hz⟩:∃ z,Hd 4 v 0=z:=⟨_,rfl⟩;rw[hz]at CH ⊢;have bT:(c:Int)<(ws.length:Int):=by omega
    have fP:=zcj h.ne;clear h hu hv hc hg hz;go_enter func203,ntmps203
    go_wp2_with fail
    refine yG.o.mono ?_;rintro e w1 ⟨rfl,k1,aD⟩;have H1:Hid (SAt w1 mb wb tl ⟨ws,hf,lo,fr,t⟩):=zab (by rw[aD];exact HH.o.drewN k1);have F1:Hid (Fr (M2 mb wb) w w1):=zab (by rw[aD];exact (Fr.refl _ _).drewN k1);clear aD yG;have c0:=H1.o.c0;simp only at c0;go_wp2_with fail
    go_region_held3 (fun W=>W.cell? ⟨mb,0,none⟩=some (.slice (some ⟨wb,0,none⟩) ws.length ws.length)) (first|go_keep|assumption) (first
     |(go_at_call 75;refine (CH.o _).mono ?_;rintro e w3 ⟨rfl,bL⟩;subst w3)
     |(go_at_call 82;refine (zaA H1.o.drew 2 _ HC.o).mono ?_;rintro e w2 ⟨rfl,k2,aB⟩;have H2:Hid (SAt w2 mb wb tl ⟨ws,hf,lo,fr,t⟩):=zab (by rw[aB];exact H1.o.drew.drewN k2);have F2:Hid (Fr (M2 mb wb) w w2):=zab (by rw[aB];exact F1.o.drew.drewN k2);have d0:=H2.o.c0;have dc:=H2.o.zko (i:=c) aN;have df:=H2.o.zeC.frozen c;simp only at d0 dc;clear aB))
    all_goals
     have H3:=zab (H2.o.zcB c z);have F3:=zab (F2.o.set ⟨wb,c,none⟩ (.int .i64 z) (.inl (.inr rfl)));generalize w2.setCell ⟨wb,c,none⟩ (.int .i64 z)=w3 at H3 F3;clear c0 d0 dc df;go_wp2_with fail
     refine (Go.Proofs.YtgahgkddaljmkaaGreatDoor.zbQ H3.o 2 (by simp only;omega)).mono ?_;rintro e w4 ⟨rfl,h4,f4⟩;have H4:=zab h4;have F4:=zab (F3.o.trans f4);have c0:=h4.c0;have c4:=h4.c4;simp only[eN]at c4;have ct:=h4.zko (i:=u) (by simp only[zy6];omega);have cf:=h4.zeC.frozen u;simp only[zy6]at c0;clear h4 f4;have p9:(u:Int)<(ws.length:Int):=by omega
     have AP:(0:Int)<=(u:Int):=by omega
     go_wp2_with fail
     go_region_held3 (fun W=>W.cell? ⟨mb,0,none⟩=some (.slice (some ⟨wb,0,none⟩) ws.length ws.length)/\W.cell? ⟨mb,4,none⟩=some (.int .i64 u)) (first|go_keep|(refine ⟨?_,?_⟩ <;> assumption)) (fail)
     all_goals
      go_wp2_with fail
      first|go_end0|refine bodyPost_ret (results_none rfl _ _ _) rfl ?_
      refine ⟨rfl,?_,F4.o.drew.set _ _ (.inl (.inr rfl))⟩;have:=H4.o.drew.zcB u v;simp only[eN]at this ⊢;exact this
   ·cases hu
def BAt (w:World) (mb wb:Nat) (fv pv:Value) (sl:List Nat):Prop:=
 ∃ pb cap,pv=.slice (some ⟨pb,0,none⟩) sl.length cap/\pb<w.heap.size/\¬ MB mb wb fv pb/\∀ (i n:Nat),sl[i]?=some n->n<=1000000/\w.cell? ⟨pb,i*2,none⟩=some (.int .i64 n)
variable {sl:List Nat}
theorem BAt.fr{w':World}{pv:Value}(h:BAt w mb wb fv pv sl)(f:Fr (MB mb wb fv) w w'):BAt w' mb wb fv pv sl:=by
 obtain ⟨pb,cap,h1,h2,h3,h4⟩:=h;refine ⟨pb,cap,h1,zyS h2 f.size,h3,fun i n hi=>⟨(h4 i n hi).1,?_⟩⟩;rw[World.cell?_of_block (w:=w) (f.block pb h2 h3)];exact (h4 i n hi).2
def Sto.zfJ (s:Sto) (sl:List Nat) (a:Nat):Option Int:=
 match s.ws[a]? with
 |none=>none
 |some y=>if y<0\/9223372036854775808<=y then none else
  if y%16=2 then
   match sl[(y/65536).toNat]? with
   |none=>none
   |some n=>some ((n:Int)-y/16%4096)
  else some (-1)
variable {a:Nat}
theorem zjp(h:MAt w mb wb fv m)(hB:BAt w mb wb fv m.o.pb sl){r:Int}(hr:m.s.zfJ sl a=some r):
  Calls prog 127 #[.pointer (some ⟨mb,0,none⟩),.int .i64 a] w fun e w'=>e=.returned (.int .i64 r)/\∃ n,w'=w.drewN n:=by
 unfold Sto.zfJ at hr;split at hr
 ·cases hr
 ·next y hy=>
  split at hr
  ·cases hr
  ·next aT=>
   have c0:=h.sat.c0;have cy:=h.sat.word hy;have aU:=(zyL.1 hy).1;have eo:(a:Int)<(m.s.ws.length:Int):=by omega
   have CK:=zab (fun W:World=>za4 y W (by omega) (by omega));by_cases hk:y%16=2
   ·rw[if_pos hk]at hr;split at hr
    ·cases hr
    ·next n hn=>
     obtain rfl:=zyU hr;obtain ⟨pb,cap,eD,_,_,dA⟩:=hB;have c5:=h.sat.c5;rw[eD]at c5;obtain ⟨cR,cn⟩:=dA _ _ hn;have CW:=zab (fun W:World=>zbw y W (by omega) (by omega));have CC:=zab (fun W:World=>za3 y W (by omega) (by omega));have cV:=(zyL.1 hn).1;obtain ⟨b,hb⟩:∃ b:Nat,y/65536=b:=⟨(y/65536).toNat,by omega⟩;obtain ⟨c,hc⟩:∃ c:Nat,y/16%4096=c:=⟨(y/16%4096).toNat,by omega⟩;have jj:(c:Int)<4096:=by omega
     rw[hb]at CW cV cn;rw[hc]at CC ⊢;rw[hk]at CK;simp only[zy2]at cn cV;have Eh:(b:Int)<(sl.length:Int):=by omega
     clear h hr hy aT hk eD dA hn hb hc aU;go_enter func127,ntmps127
     go_wp2_with fail
     refine (CK.o _).mono ?_;rintro e w1 ⟨rfl,aD⟩;subst w1;go_wp2_with fail
     go_quiet ((first|(go_at_call 84;exact Calls.quiet_of_same (CW.o _))|(go_at_call 85;exact Calls.quiet_of_same (CC.o _))))
     go_wp2_with fail
     go_ret
     exact ⟨rfl,_,rfl⟩
   ·rw[if_neg hk]at hr;obtain rfl:=zyU hr;have lj:(y%16 == 2)=false:=by rw[beq_eq_false_iff_ne];exact hk
    generalize y%16=z at CK hk lj;clear h hr hy aT hk hB aU;go_enter func127,ntmps127
    go_wp2_with fail
    refine (CK.o _).mono ?_;rintro e w1 ⟨rfl,aD⟩;subst w1;go_wp2_with fail
    go_ret
    exact ⟨rfl,0,rfl⟩
theorem zxK:∀ {k:Nat} {s s':Sto} {a:Nat},s.scan a k=some s'->s'.ws.length=s.ws.length:=by
 intro k
 induction k with
 |zero=>intro s s' a h;cases h
 |succ k ih=>
  intro s s' a h;rw[Sto.scan]at h;split at h
  ·split at h
   ·cases h
   ·split at h
    ·cases h
    ·split at h
     ·cases h
     ·next s1 hb=>
      split at h
      ·cases h
      ·split at h
       ·cases h
       ·rw[ih h];exact (zgO hb).1
  ·obtain rfl:=zyU h;rfl
theorem zli{fns cI:List Int}(hc:s.collect fns=some (cI,s')):s'.ws.length=s.ws.length:=by
 unfold Sto.collect at hc;split at hc
 ·next hg=>
  have ht:s.zbR.ws.length=s.ws.length:=by
   unfold Sto.zbR;simp only;rw[zaY];rw[zzf,zzu];omega
  split at hc
  ·cases hc
  ·next s1 aA=>
   split at hc
   ·cases hc
   ·next gj s2 aw=>
    split at hc
    ·cases hc
    ·next s3 bD=>
     simp only[zyP,zzL]at hc;rw[<-hc.2,zxK bD,(zdQ aw).1,(zgO aA).1,ht]
 ·cases hc
variable {m':MSt}
theorem zmx(h:m.zdI c=some (.ok m')):m'.s.ws.length=m.s.ws.length:=by
 unfold MSt.zdI at h;split at h
 ·simp only[zyP,zAb]at h;rw[h]
 ·split at h
  ·cases h
  ·next gj s2 jW=>
   split at h
   ·simp only[zyP,reduceCtorEq]at h
   ·simp only[zyP,zAb]at h;rw[<-h];exact zli jW
def Sto.head (s:Sto) (a:Nat):Option Int:=
 match s.ws[a]? with
 |none=>none
 |some y=>if y<0\/9223372036854775808<=y then none else some y
variable {y:Int}
theorem Sto.zaU(h:s.head a=some y):s.ws[a]?=some y/\0<=y/\y<9223372036854775808/\a<s.ws.length:=by
 unfold Sto.head at h;split at h
 ·cases h
 ·next x hx=>
  split at h
  ·cases h
  ·next hg=>obtain rfl:=zyU h;exact ⟨hx,by omega,by omega,(zyL.1 hx).1⟩
def Sto.nodeAt (s:Sto) (d:Nat):Option (Nat × Int):=
 match s.ws[s.top+d]? with
 |none=>none
 |some x=>if x<0 then none else (s.head x.toNat).map fun y=>(x.toNat,y)
theorem Sto.zaP{d:Nat}(h:s.nodeAt d=some (a,y)):s.ws[s.top+d]?=some (a:Int)/\s.head a=some y:=by
 unfold Sto.nodeAt at h;split at h
 ·cases h
 ·next x hx=>
  split at h
  ·cases h
  ·next hg=>
   simp only[zyX,zzL]at h;obtain ⟨z,h1,h2,rfl⟩:=h;subst h2;refine ⟨?_,h1⟩;rw[hx,Int.toNat_of_nonneg (by omega)]
def cnt (y:Int):Nat:=(y/16%4096).toNat
theorem zh9(_h:0<=y):y/16%4096=(cnt y:Int):=by unfold cnt;omega
theorem zf2(y:Int):cnt y<4096:=by unfold cnt;omega
def MSt.begun (m:MSt):Option MSt:=
 match m.s.nodeAt 0 with
 |none=>none
 |some (a,_)=>
  match m.s.push (Mk 0 0) with
  |none=>none
  |some s2=>
   match s2.head a with
   |none=>none
   |some y2=>if s2.ws.length<a+1+cnt y2 then none else
    match s2.zek (s2.words (a+1) (cnt y2)) with
    |none=>none
    |some s3=>
     match s3.head a with
     |none=>none
     |some y3=>some { m with s:={ s3 with ws:=s3.ws.set a (Hd 3 0 0) },o:={ m.o with next:=y3/65536 } }
def MSt.zdy (m:MSt):Option (Except Nat MSt):=
 match m.s.nodeAt 0 with
 |none=>none
 |some (_,y)=>aft (m.zdI (1+cnt y)) fun m1=>m1.begun.map .ok
theorem tk{P:Program}{ops:Array Oper}{Q:Exit->Act->World->Prop}{md:Region.Mode}{S:World->Prop}(i:Nat){oi:Oper}{v:Value}{fuel:Nat}{listed:Array Bool}{a:Act}(k:wpAnyH P md ops Q S fuel (listed.setIfInBounds i true) (a.put oi.dst v) w)(h0:ops[i]?=some oi:=by rfl)(hw:Region.wanted oi (yielded ops a.tmps)=true:=by rfl)(hy:∀ w:World,S w->Sem.run P (execOp a.eval oi) w=.ok (.value v) w:=by intro w h;(try dsimp only at h);(try go_split_ands);go_simp;try with_reducible rfl)(h1:Region.noSelect ops=true:=by kernel_rfl)(h2:Region.free md ops listed i=true:=by kernel_rfl)(h3:(Region.ready md ops listed).contains i=true:=by kernel_rfl)(hQ:∀ (c:List PanicEntry) (a:Act) (w:World),Q (.panic c) (a.put oi.dst v) w->Q (.panic c) a w:=by exact fun _ _ _ h=>h)(hS:S w:=by assumption):wpAnyH P md ops Q S (fuel+1) listed a w:=
 wpAnyH_take h0 h1 h2 h3 hQ (.inl ⟨hw,hy⟩) hS k
theorem rd1{P:Program}{ops:Array Oper}{Q:Exit->Act->World->Prop}{md:Region.Mode}{S:World->Prop}(i:Nat){o:Oper}{fuel:Nat}{listed:Array Bool}{a:Act}(h0:ops[i]?=some o)(k:∀ K':Act->World->Prop,Shut (∀ (a:Act) (w:World),S w->(S w->wpAnyH P md ops Q S fuel (listed.setIfInBounds i true) a w)->K' a w)->if Region.wanted o (yielded ops a.tmps)=true then Oper.wp P o a w K' Q else K' (a.put o.dst undef) w)(h:Region.ready md ops listed=[i]:=by kernel_rfl):wpAnyH P md ops Q S (fuel+1) listed a w:=
 wpAnyH_ready h (by simp) (.cons h0 k .nil)
theorem zns(h:MAt w mb wb fv m)(hb:m.zdy=some r):
  Calls prog 128 #[.pointer (some ⟨mb,0,none⟩)] w fun e w'=>Ends w mb wb fv r e w':=by
 unfold MSt.zdy at hb;split at hb
 ·cases hb
 rename_i a y ha;cases hn:m.zdI (1+cnt y) with
 |none=>rw[hn]at hb;cases hb
 |some r0=>_
 rw[hn]at hb;obtain ⟨hx,hh⟩:=Sto.zaP ha;obtain ⟨hy,aT,bE,aU⟩:=Sto.zaU hh;have c0:=h.sat.c0;have eo:(a:Int)<(m.s.ws.length:Int):=by omega
 have CC:=zab (fun W:World=>za3 y W aT bE);rw[zh9 aT]at CC;have aN:=zf2 y;have HH:=zab h;have CA:=zab (fun (W:World) (hW:MAt W mb wb fv m)=>zaA (d:=0) hW.sat _ hx);have HY:=zab hy;have CN:=zab (fun (W:World) (hW:MAt W mb wb fv m)=>zaW hW hn);have HN:=zab hn;have HB:=zab hb;have fP:=zcj h.sat.ne;simp only[zzq,zzJ]at CN;have uS:IntKind.i64.wrap (1+(cnt y:Int))=1+(cnt y:Int):=zbc _ (by omega) (by omega);generalize cnt y=c at *;clear h ha hx hy hh hn aT bE aU hb;go_enter func128,ntmps128
 go_wp2_with fail
 refine wp_region_held_drew (S:=fun W=>W.cell? ⟨mb,0,none⟩=some (.slice (some ⟨wb,0,none⟩) m.s.ws.length m.s.ws.length)) (by kernel_rfl) HH.o.sat.drew.c0 (fun ax=>?_);refine tk 0 ?_
 try simp only[Act.put,zyO]
 refine tk 1 ?_
 try simp only[Act.put]
 refine tk 2 ?_
 try simp only[Act.put]
 refine tk 3 ?_
 try simp only[Act.put]
 refine tk 4 ?_
 try simp only[Act.put]
 refine tk 5 ?_
 try simp only[Act.put]
 refine tk 6 ?_
 try simp only[Act.put]
 refine tk 7 ?_
 try simp only[Act.put]
 refine tk 8 ?_
 try simp only[Act.put]
 refine rd1 9 rfl fun K hK=>?_
 go_simp
 refine (CA.o _ (HH.o.drewN 1)).mono ?_;rintro e w2 ⟨rfl,k2,aB⟩;have H2:Hid (MAt w2 mb wb fv m):=zab (by rw[aB];exact (HH.o.drewN 1).drewN k2);have F2:Hid (Fr (MB mb wb fv) w w2):=zab (by rw[aB];exact (Fr.refl _ _).drew.drewN k2);have d0:=H2.o.sat.c0;have dy:=H2.o.sat.word HY.o;clear aB;refine hK.out _ _ d0 (fun ax=>?_);clear hK K
 try simp only[Act.put,zyO,zyZ,zyW]
 refine tk 10 ?_
 try simp only[Act.put,zyO]
 refine rd1 11 rfl fun K hK=>?_
 go_simp
 refine hK.out _ _ d0 (fun ax=>?_);clear hK K
 try simp only[Act.put,zyO,zyZ,zyW]
 refine rd1 12 rfl fun K hK=>?_
 go_simp
 refine (CC.o _).mono ?_;rintro e w3 ⟨rfl,bL⟩;subst w3;refine hK.out _ _ d0 (fun ax=>?_);clear hK K
 try simp only[Act.put,zyO,zyZ,zyW]
 refine tk 13 ?_
 try simp only[Act.put,zyO]
 refine rd1 14 rfl fun K hK=>?_
 go_simp
 refine (CN.o _ H2.o).mono ?_;rintro e w4 ⟨f4,h4⟩;have hb:=HB.o;rcases r0 with k|m1
 ·obtain ⟨rfl,h4⟩:=h4;obtain rfl:=zyU hb;exact ⟨rfl,F2.o.trans f4,rfl,h4⟩
 obtain ⟨rfl,h4⟩:=h4;have H4:=zab h4;have F4:=zab (F2.o.trans f4);have g0:w4.cell? ⟨mb,0,none⟩=some (.slice (some ⟨wb,0,none⟩) m.s.ws.length m.s.ws.length):=by rw[h4.sat.c0,zmx HN.o]
 refine hK.out _ _ g0 (fun ax=>?_);clear hK K
 try simp only[Act.put,zyO,zyZ,zyW]
 refine wpAnyH_done (by kernel_rfl) ?_ _;clear c0 d0 dy g0 h4 f4;simp only[aft,zyX]at hb;obtain ⟨m2,h2,rfl⟩:=hb;unfold MSt.begun at h2;split at h2
 ·cases h2
 rename_i a1 y1 gm;split at h2
 ·cases h2
 rename_i s2 AE;split at h2
 ·cases h2
 rename_i y2 kZ;split at h2
 ·cases h2
 rename_i aJ;split at h2
 ·cases h2
 rename_i s3 js;split at h2
 ·cases h2
 rename_i y3 ld;obtain rfl:=zyU h2;obtain ⟨ee,_⟩:=Sto.zaP gm;obtain ⟨lL,iS,iT,ji⟩:=Sto.zaU kZ;obtain ⟨oi,iU,iV,kN⟩:=Sto.zaU ld;have eR:=zab ee;have je:=zab AE;have gE:=zab (And.intro lL (And.intro iS (And.intro iT (show a1+1+cnt y2<=s2.ws.length by omega))));have oB:=zab js;have pO:=zab oi;have CW:=zab (fun W:World=>zbw y3 W iU iV);have rO:(a1:Int)<(s3.ws.length:Int):=by omega
 have CH:=zab (fun W:World=>zbt 3 0 0 W (by omega) (by omega) (by omega));obtain ⟨z,hz⟩:∃ z,Hd 3 0 0=z:=⟨_,rfl⟩;obtain ⟨nx,gx⟩:∃ nx,y3/65536=nx:=⟨_,rfl⟩;rw[hz]at CH;rw[gx]at CW;have HZ:=zab hz;have HX:=zab gx;clear hz gx h2 gm ee kZ lL iS iT ji aJ AE js ld oi iU iV kN;go_wp2_with fail
 refine (zaA (d:=0) H4.o.sat _ eR.o).mono ?_;rintro e w5 ⟨rfl,k5,dK⟩;have H5:Hid (MAt w5 mb wb fv m1):=zab (by rw[dK];exact H4.o.drewN k5);have F5:Hid (Fr (MB mb wb fv) w w5):=zab (by rw[dK];exact F4.o.drewN k5);clear dK;go_wp2_with fail
 go_region_held3 (fun _=>True) (trivial) (first
  |(go_at_call 138;refine (ziQ 0 0 _ (by omega) (by omega)).mono ?_;rintro e w6 ⟨rfl,oe⟩;subst w6)
  |(go_at_call 76;refine (Sto.zb5 H5.o.sat.drew je.o).mono ?_;rintro e w7 ⟨rfl,h7,f7⟩;have H7:=zab h7;have F7:Hid (Fr (M2 mb wb) w5 w7):=zab ((Fr.refl _ _).drew.trans f7);clear h7 f7))
 all_goals
  go_wp2_with fail
  go_region_held3 (fun _=>True) (trivial) (first
   |(go_at_call 135;refine (zcA H7.o.drew a1 y2 gE.o.1 gE.o.2.1 gE.o.2.2.1 gE.o.2.2.2).mono ?_;rintro e w8 ⟨rfl,k8,lJ⟩;have H8:Hid (SAt w8 mb wb (zeu m1.o fv) s2):=zab (by rw[lJ];exact H7.o.drew.drewN k8);have F8:Hid (Fr (M2 mb wb) w5 w8):=zab (by rw[lJ];exact F7.o.drew.drewN k8);clear lJ)
   |(go_at_call 201;refine (Sto.zel H8.o oB.o rfl gE.o.2.2.2 (fun h0=>zbT (by have:=gE.o.2.2.2;unfold cnt at h0 this;omega))).mono ?_;rintro e w9 ⟨rfl,h9,f9⟩;have H9:=zab h9;have F9:=zab (F8.o.trans f9);clear h9 f9))
  all_goals
   have e0:=H9.o.c0;have ey:=H9.o.word pO.o;have wG:=H9.o.c10;have ef:=H9.o.blk.frozen 10;go_wp2_with fail
   refine (CW.o _).mono ?_;rintro e pB ⟨rfl,tA⟩;subst pB;go_wp2_with fail
   have ot:=zab (H9.o.zgs nx);have mo:Hid (Fr (M2 mb wb) w5 (w9.setCell ⟨mb,10,none⟩ (.int .i64 nx))):=zab (F9.o.set _ _ (.inl (.inl rfl)));generalize w9.setCell ⟨mb,10,none⟩ (.int .i64 nx)=yE at ot mo;clear e0 ey wG ef;have i0:=ot.o.c0;have iy:=ot.o.word pO.o;have jf:=ot.o.zeC.frozen a1
   go_region_held3 (fun W=>W.cell? ⟨mb,0,none⟩=some (.slice (some ⟨wb,0,none⟩) s3.ws.length s3.ws.length)) (first|go_keep|assumption) (first
    |(go_at_call 75;refine (CH.o _).mono ?_;rintro e FV ⟨rfl,Fm⟩;subst FV))
   all_goals
    go_wp2_with fail
    first|go_end0|refine bodyPost_ret (results_none rfl _ _ _) rfl ?_
    obtain rfl:=HZ.o;obtain rfl:=HX.o;have f12:Fr (M2 mb wb) w5 (yE.drew.setCell ⟨wb,a1,none⟩ (.int .i64 (Hd 3 0 0))):=mo.o.drew.set _ _ (.inl (.inr rfl));exact ⟨F5.o.trans (f12.zc9 fv),rfl,ot.o.drew.zcB a1 (Hd 3 0 0),H5.o.fat.fr f12,H5.o.fl,H5.o.fuel⟩
def Sto.leave (s:Sto) (taken left:Nat):Option Sto:=
 if 1<=s.top/\s.top+taken<=s.ws.length/\left<=1000000 then
  some { s with top:=s.top-1,ws:=(Go.splice s.ws (s.top-1) (s.words s.top taken)).set (s.top-1+taken) (Mk 2 left) }
 else none
variable {n:Nat}
theorem ztp(h:SAt w mb wb tl s){l:Nat}(hu:s.leave n l=some s'):
  Calls prog 274 #[.pointer (some ⟨mb,0,none⟩),.int .i64 n,.int .i64 l] w fun e w'=>e=.returned (.tuple #[])/\SAt w' mb wb tl s'/\Fr (M2 mb wb) w w':=by
 obtain ⟨ws,hf,lo,fr,tp⟩:=s;unfold Sto.leave at hu;split at hu
 ·next hg=>
  obtain rfl:=zyU hu;simp only at hg ⊢;obtain ⟨t,rfl⟩:∃ t,tp=t+1:=⟨tp-1,by omega⟩;simp only[Nat.add_sub_cancel];have hlen:ws.length<=1000000:=h.len;obtain ⟨R,hR⟩:∃ R,ws.length=t+(R+1):=⟨ws.length-t-1,by omega⟩;have sJ:n<=R:=by omega
  have dk:(Sto.words ⟨ws,hf,lo,fr,t+1⟩ (t+1) n).length=n:=Sto.zcR (by simp only;omega);have lK:∀ (j:Nat) x,(Sto.words ⟨ws,hf,lo,fr,t+1⟩ (t+1) n)[j]?=some x->ws[t+1+j]?=some x:=fun j x hj=>(Sto.zd7 hj).2
  generalize Sto.words ⟨ws,hf,lo,fr,t+1⟩ (t+1) n=xs at dk lK;have H1:=zab (h.zlL t (by omega));have c4:w.cell? ⟨mb,4,none⟩=some (.int .i64 ((t:Int)+1)):=h.c4;have f4:=h.blk.frozen 4;have HP:Hid (Fr (M2 mb wb) w (w.setCell ⟨mb,4,none⟩ (.int .i64 t))):=zab ((Fr.refl _ _).set _ _ (.inl (.inl rfl)));have CM:=zab (fun W:World=>ziQ 2 l W (by omega) (by omega));obtain ⟨z,hz⟩:∃ z,Mk 2 l=z:=⟨_,rfl⟩;rw[hz]at CM ⊢;have mW:t+xs.length<=ws.length:=by omega
  have fP:=zcj h.ne;have cR:(n:Int)<=(R:Int):=by omega
  have nI:(R:Int)<=1000000:=by omega
  have mD:=zab lK;clear h hu hg hz lK;go_enter func274,ntmps274
  go_wp2_with fail
  generalize w.setCell ⟨mb,4,none⟩ (.int .i64 t)=w1 at H1 HP;have CS:=zab (zeZ H1.o (n+1) (by simp only;omega));simp only[zzq,zzJ,zbT (show t<ws.length by omega),show ws.length-t=R+1 by omega]at CS;clear c4 f4;go_wp2_with fail
  refine CS.o.mono ?_;rintro e w2 ⟨rfl,k2,aB⟩;have H2:Hid (SAt w2 mb wb tl ⟨ws,hf,lo,fr,t⟩):=zab (by rw[aB];exact H1.o.drewN k2);have F2:Hid (Fr (M2 mb wb) w w2):=zab (by rw[aB];exact HP.o.drewN k2);clear aB CS;by_cases hr:R=0
  ·obtain rfl:n=0:=by omega
   obtain rfl:xs=[]:=zzt dk;subst hr;obtain ⟨w3,dI,h3,f3⟩:=ziN H2.o 3 t 1 1 0 0 (some ⟨wb,t,none⟩) [] (by simp) (fun h=>absurd h (by simp)) mW;have H3:=zab h3;have F3:=zab (F2.o.trans f3);have ci:=h3.zko (i:=t) (by simp only;rw[zaY _ _ _ mW];omega);have cf:=h3.zeC.frozen t;clear h3 f3;have iJ:(0:Int)<(0:Int)+1:=by omega
   go_wp2_with fail
   refine (CM.o _).mono ?_;rintro e w4 ⟨rfl,uR⟩;subst w4;go_wp2_with fail
   first|go_end0|refine bodyPost_ret (results_none rfl _ _ _) rfl ?_
   refine ⟨rfl,H3.o.zcB t z,?_⟩;exact Fr.set F3.o _ _ (.inl (.inr rfl))
  ·obtain ⟨w3,dI,h3,f3⟩:=ziN H2.o 3 t (n+1) (R+1) n R (some ⟨wb,t+1,none⟩) xs (by simp[];omega) (fun h0=>⟨_,rfl,fun j x hj=>by rw[zbe];exact H2.o.word (mD.o j x hj)⟩) mW;have H3:=zab h3;have F3:=zab (F2.o.trans f3);have ci:=h3.zko (i:=t+n) (by simp only;rw[zaY _ _ _ mW];omega);have cf:=h3.zeC.frozen (t+n);clear h3 f3;have iJ:(n:Int)<(n:Int)+1:=by omega
   go_wp2_with fail
   refine (CM.o _).mono ?_;rintro e w4 ⟨rfl,uR⟩;subst w4;go_wp2_with fail
   first|go_end0|refine bodyPost_ret (results_none rfl _ _ _) rfl ?_
   exact ⟨rfl,H3.o.zcB (t+n) z,F3.o.set _ _ (.inl (.inr rfl))⟩
 ·cases hu
def MSt.called (m:MSt) (lk lf:Nat):Option MSt:=
 match m.s.nodeAt 0 with
 |none=>none
 |some (a,_)=>
  match m.s.pop 2 with
  |none=>none
  |some s2=>
   match (if lf=0 then some s2 else s2.leave lk lf) with
   |none=>none
   |some s3=>
    match s3.head a with
    |none=>none
    |some y2=>if s3.ws.length<a+1+cnt y2 then none else
     match s3.zek (s3.words (a+1) (cnt y2)) with
     |none=>none
     |some s4=>
      match s4.head a with
      |none=>none
      |some y3=>some { m with s:=s4,o:={ m.o with next:=y3/65536 } }
def MSt.call (m:MSt) (lk lf:Nat):Option (Except Nat MSt):=
 match m.s.nodeAt 0 with
 |none=>none
 |some (_,y)=>aft (m.zdI (cnt y)) fun m1=>(m1.called lk lf).map .ok
theorem zve{lk lf:Nat}(h:MAt w mb wb fv m)(hb:m.call lk lf=some r):
  Calls prog 256 #[.pointer (some ⟨mb,0,none⟩),.int .i64 lk,.int .i64 lf] w fun e w'=>Ends w mb wb fv r e w':=by
 unfold MSt.call at hb;split at hb
 ·cases hb
 rename_i a y ha;cases hn:m.zdI (cnt y) with
 |none=>rw[hn]at hb;cases hb
 |some r0=>_
 rw[hn]at hb;obtain ⟨hx,hh⟩:=Sto.zaP ha;obtain ⟨hy,aT,bE,aU⟩:=Sto.zaU hh;have c0:=h.sat.c0;have eo:(a:Int)<(m.s.ws.length:Int):=by omega
 have CC:=zab (fun W:World=>za3 y W aT bE);rw[zh9 aT]at CC;have aN:=zf2 y;have HH:=zab h;have CA:=zab (fun (W:World) (hW:MAt W mb wb fv m)=>zaA (d:=0) hW.sat _ hx);have HY:=zab hy;have CN:=zab (fun (W:World) (hW:MAt W mb wb fv m)=>zaW hW hn);have HN:=zab hn;have HB:=zab hb;have fP:=zcj h.sat.ne;generalize cnt y=c at *;clear h ha hx hy hh hn aT bE aU hb;go_enter func256,ntmps256
 go_wp2_with fail
 refine wp_region_held_drew (S:=fun W=>W.cell? ⟨mb,0,none⟩=some (.slice (some ⟨wb,0,none⟩) m.s.ws.length m.s.ws.length)) (by kernel_rfl) HH.o.sat.drew.c0 (fun ax=>?_);refine tk 0 ?_
 try simp only[Act.put,zyO]
 refine tk 1 ?_
 try simp only[Act.put]
 refine tk 2 ?_
 try simp only[Act.put]
 refine tk 3 ?_
 try simp only[Act.put]
 refine tk 4 ?_
 try simp only[Act.put]
 refine tk 5 ?_
 try simp only[Act.put]
 refine tk 6 ?_
 try simp only[Act.put]
 refine tk 7 ?_
 try simp only[Act.put]
 refine tk 8 ?_
 try simp only[Act.put]
 refine rd1 9 rfl fun K hK=>?_
 go_simp
 refine (CA.o _ (HH.o.drewN 1)).mono ?_;rintro e w2 ⟨rfl,k2,aB⟩;have H2:Hid (MAt w2 mb wb fv m):=zab (by rw[aB];exact (HH.o.drewN 1).drewN k2);have F2:Hid (Fr (MB mb wb fv) w w2):=zab (by rw[aB];exact (Fr.refl _ _).drew.drewN k2);have d0:=H2.o.sat.c0;have dy:=H2.o.sat.word HY.o;clear aB;refine hK.out _ _ d0 (fun ax=>?_);clear hK K
 try simp only[Act.put,zyO,zyZ,zyW]
 refine tk 10 ?_
 try simp only[Act.put,zyO]
 refine rd1 11 rfl fun K hK=>?_
 go_simp
 refine hK.out _ _ d0 (fun ax=>?_);clear hK K
 try simp only[Act.put,zyO,zyZ,zyW]
 refine rd1 12 rfl fun K hK=>?_
 go_simp
 refine (CC.o _).mono ?_;rintro e w3 ⟨rfl,bL⟩;subst w3;refine hK.out _ _ d0 (fun ax=>?_);clear hK K
 try simp only[Act.put,zyO,zyZ,zyW]
 refine rd1 13 rfl fun K hK=>?_
 go_simp
 refine (CN.o _ H2.o).mono ?_;rintro e w4 ⟨f4,h4⟩;have hb:=HB.o;rcases r0 with k|m1
 ·obtain ⟨rfl,h4⟩:=h4;obtain rfl:=zyU hb;exact ⟨rfl,F2.o.trans f4,rfl,h4⟩
 obtain ⟨rfl,h4⟩:=h4;have H4:=zab h4;have F4:=zab (F2.o.trans f4);have g0:w4.cell? ⟨mb,0,none⟩=some (.slice (some ⟨wb,0,none⟩) m.s.ws.length m.s.ws.length):=by rw[h4.sat.c0,zmx HN.o]
 refine hK.out _ _ g0 (fun ax=>?_);clear hK K
 try simp only[Act.put,zyO,zyZ,zyW]
 refine wpAnyH_done (by kernel_rfl) ?_ _;clear c0 d0 dy g0 h4 f4;simp only[aft,zyX]at hb;obtain ⟨m2,h2,rfl⟩:=hb;unfold MSt.called at h2;split at h2
 ·cases h2
 rename_i a1 y1 gm;split at h2
 ·cases h2
 rename_i s2 jt;split at h2
 ·cases h2
 rename_i s3 JP;split at h2
 ·cases h2
 rename_i y2 kZ;split at h2
 ·cases h2
 rename_i aJ;split at h2
 ·cases h2
 rename_i s4 js;split at h2
 ·cases h2
 rename_i y3 ld;obtain rfl:=zyU h2;have hle:(lf=0/\s2=s3)\/(0<lf/\s2.leave lk lf=some s3):=by
  by_cases hl:lf=0
  ·rw[if_pos hl]at JP;exact .inl ⟨hl,zyU JP⟩
  ·rw[if_neg hl]at JP;exact .inr ⟨by omega,JP⟩
 obtain ⟨ee,_⟩:=Sto.zaP gm;obtain ⟨lL,iS,iT,ji⟩:=Sto.zaU kZ;obtain ⟨oi,iU,iV,kN⟩:=Sto.zaU ld;have eR:=zab ee;have kE:=zab jt;have vI:=zab hle;have gE:=zab (And.intro lL (And.intro iS (And.intro iT (show a1+1+cnt y2<=s3.ws.length by omega))));have oB:=zab js;have pO:=zab oi;have CW:=zab (fun W:World=>zbw y3 W iU iV);have rO:(a1:Int)<(s4.ws.length:Int):=by omega
 obtain ⟨nx,gx⟩:∃ nx,y3/65536=nx:=⟨_,rfl⟩;rw[gx]at CW;have HX:=zab gx;clear gx h2 gm ee kZ lL iS iT ji aJ jt js ld oi iU iV kN hle JP;go_wp2_with fail
 refine (zaA (d:=0) H4.o.sat _ eR.o).mono ?_;rintro e w5 ⟨rfl,k5,dK⟩;have H5:Hid (MAt w5 mb wb fv m1):=zab (by rw[dK];exact H4.o.drewN k5);have F5:Hid (Fr (MB mb wb fv) w w5):=zab (by rw[dK];exact F4.o.drewN k5);clear dK;go_wp2_with fail
 refine (Sto.zbQ (c:=2) H5.o.sat kE.o).mono ?_;rintro e w6 ⟨rfl,h6,f6⟩;have H6:=zab h6;have F6:=zab f6;clear h6 f6;obtain ⟨rfl,hle⟩|⟨uM,hle⟩:=vI.o;have H7:Hid (SAt w6 mb wb (zeu m1.o fv) s3):=zab (by rw[<-hle];exact H6.o);have F7:=F6;clear hle;generalize w6=w7 at H7 F7
 rotate_left
 have ER:(0:Int)<(lf:Int):=by omega
 go_wp2_with fail
 refine (ztp H6.o hle).mono ?_;rintro e w7 ⟨rfl,h7,f7⟩;have H7:=zab h7;have F7:=zab (F6.o.trans f7);clear h7 f7 hle
 all_goals
  go_wp2_with fail
  go_region_held3 (fun _=>True) (trivial) (first
   |(go_at_call 135;refine (zcA H7.o.drew a1 y2 gE.o.1 gE.o.2.1 gE.o.2.2.1 gE.o.2.2.2).mono ?_;rintro e w8 ⟨rfl,k8,lJ⟩;have H8:Hid (SAt w8 mb wb (zeu m1.o fv) s3):=zab (by rw[lJ];exact H7.o.drew.drewN k8);have F8:Hid (Fr (M2 mb wb) w5 w8):=zab (by rw[lJ];exact F7.o.drew.drewN k8);clear lJ)
   |(go_at_call 201;refine (Sto.zel H8.o oB.o rfl gE.o.2.2.2 (fun h0=>zbT (by have:=gE.o.2.2.2;unfold cnt at h0 this;omega))).mono ?_;rintro e w9 ⟨rfl,h9,f9⟩;have H9:=zab h9;have F9:=zab (F8.o.trans f9);clear h9 f9))
  all_goals
   have e0:=H9.o.c0;have ey:=H9.o.word pO.o;have wG:=H9.o.c10;have ef:=H9.o.blk.frozen 10;go_wp2_with fail
   refine (CW.o _).mono ?_;rintro e pB ⟨rfl,tA⟩;subst pB;go_wp2_with fail
   first|go_end0|refine bodyPost_ret (results_none rfl _ _ _) rfl ?_
   obtain rfl:=HX.o;have f12:Fr (M2 mb wb) w5 (w9.setCell ⟨mb,10,none⟩ (.int .i64 (y3/65536))):=F9.o.set _ _ (.inl (.inl rfl));exact ⟨F5.o.trans (f12.zc9 fv),rfl,H9.o.zgs (y3/65536),H5.o.fat.fr f12,H5.o.fl,H5.o.fuel⟩
def MSt.zci (m:MSt) (c:Nat):Option MSt:=
 if 0<=m.o.below/\m.o.below+(c:Int)<=((m.s.low+m.s.half:Nat):Int)/\m.s.low+m.s.half<=m.s.ws.length/\m.s.top+c<=m.s.ws.length then
  some { m with s:={ m.s with top:=m.s.low+m.s.half-m.o.below.toNat-c,ws:=Go.splice m.s.ws (m.s.low+m.s.half-m.o.below.toNat-c) (m.s.words m.s.top c) } }
 else none
theorem zus(h:MAt w mb wb fv m)(hs:m.zci c=some m'):
  Calls prog 139 #[.pointer (some ⟨mb,0,none⟩),.int .i64 c] w fun e w'=>Ends w mb wb fv (.ok m') e w':=by
 obtain ⟨⟨ws,hf,lo,fr,tp⟩,o,fns⟩:=m;unfold MSt.zci at hs;simp only at hs;split at hs
 ·next hg=>
  obtain rfl:=zyU hs;obtain ⟨b,hb⟩:∃ b:Nat,o.below=b:=⟨o.below.toNat,by omega⟩;rw[hb]at hg ⊢;simp only[zy2]at hg ⊢;have hlen:ws.length<=1000000:=h.sat.len;obtain ⟨i,hi⟩:∃ i,lo+hf-b-c=i:=⟨_,rfl⟩;rw[hi];have nP:lo+hf=i+c+b:=by omega
  have dk:(Sto.words ⟨ws,hf,lo,fr,tp⟩ tp c).length=c:=Sto.zcR (by simp only;omega);have lK:∀ (j:Nat) x,(Sto.words ⟨ws,hf,lo,fr,tp⟩ tp c)[j]?=some x->ws[tp+j]?=some x:=fun j x hj=>(Sto.zd7 hj).2
  generalize Sto.words ⟨ws,hf,lo,fr,tp⟩ tp c=xs at dk lK;have br:i+xs.length<=ws.length:=by omega
  have CS:=zab (zeZ h.sat c (by simp only;omega));have HH:=zab h;have uE:(lo:Int)+(hf:Int)-(b:Int)=(i:Int)+(c:Int):=by omega
  have CB:=zab (fun (W:World) (hW:MAt W mb wb fv ⟨⟨ws,hf,lo,fr,tp⟩,o,fns⟩)=>zlc hW (b:=b) hb (by omega));simp only[uE]at CB;have aA:(i:Int)<=(ws.length:Int):=by omega
  have aw:(0:Int)<=(i:Int):=by omega
  have bD:(i:Int)+(c:Int)<=1000000:=by omega
  have mD:=zab lK;have yb:0<c->cutAt ws.length tp=tp:=fun h0=>zbT (by omega)
  have HT:=zab yb;generalize cutAt ws.length tp=tq at CS yb HT;clear h hs hg hi nP uE lK yb hb;go_enter func139,ntmps139
  go_wp2_with fail
  refine CS.o.mono ?_;rintro e w1 ⟨rfl,k1,aD⟩;have H1:Hid (MAt w1 mb wb fv ⟨⟨ws,hf,lo,fr,tp⟩,o,fns⟩):=zab (by rw[aD];exact HH.o.drewN k1);have F1:Hid (Fr (M2 mb wb) w w1):=zab (by rw[aD];exact (Fr.refl _ _).drewN k1);clear aD CS;go_wp2_with fail
  refine (CB.o _ H1.o).mono ?_;rintro e w2 ⟨rfl,k2,aB⟩;have H2:Hid (MAt w2 mb wb fv ⟨⟨ws,hf,lo,fr,tp⟩,o,fns⟩):=zab (by rw[aB];exact H1.o.drewN k2);have F2:Hid (Fr (M2 mb wb) w w2):=zab (by rw[aB];exact F1.o.drewN k2);clear aB CB;have c4:=H2.o.sat.c4;have f4:=H2.o.sat.blk.frozen 4;go_wp2_with fail
  have H3:=zab (H2.o.sat.zlL i (by omega));have F3:Hid (Fr (M2 mb wb) w (w2.setCell ⟨mb,4,none⟩ (.int .i64 i))):=zab (F2.o.set _ _ (.inl (.inl rfl)));generalize w2.setCell ⟨mb,4,none⟩ (.int .i64 i)=w3 at H3 F3;have d0:=H3.o.c0;have d4:=H3.o.c4;simp only at d0 d4;have pJ:Hid (0<xs.length->∃ ad,(some (⟨wb,tq,none⟩:Addr))=some ad/\∀ (j:Nat) x,xs[j]?=some x->w3.drew.cell? (ad.add j)=some (.int .i64 x)):=zab (fun h0=>⟨_,rfl,fun j x hj=>by
   rw[zbe,HT.o (by omega)];exact H3.o.drew.word (mD.o j x hj)⟩)
  clear c4 f4 HT mD;by_cases hr:ws.length=i
  ·obtain rfl:xs=[]:=zzt (by omega);obtain rfl:c=0:=by simpa using dk.symm
   go_region_held3 (fun W=>W.cell? ⟨mb,0,none⟩=some (.slice (some ⟨wb,0,none⟩) ws.length ws.length)/\W.cell? ⟨mb,4,none⟩=some (.int .i64 i)) (first|go_keep|(refine ⟨?_,?_⟩ <;> assumption)) (first
    |(refine za6 (by rfl) _ _ (by rfl) H3.o.drew _ _ _ _ _ _ (by rfl) (by rfl) [] (by simp) (fun h=>absurd h (by simp)) (by simp) ?_;intro w5 h5 f5;have H5:=zab h5;have F5:=zab f5;have e0:=h5.c0;have e4:=h5.c4;simp only[splice,zzR,zzb,zzY,zzm,zzO]at e0 e4;clear h5 f5))
   all_goals
    go_wp2_with fail
    go_end0
    have f5:=F3.o.trans ((Fr.refl _ _).drew.trans F5.o);refine ⟨f5.zc9 fv,rfl,?_,HH.o.fat.fr f5,HH.o.fl,HH.o.fuel⟩;have:=H5.o;simpa [splice] using this
  ·have aj:i<ws.length:=by omega
   go_region_held3 (fun W=>W.cell? ⟨mb,0,none⟩=some (.slice (some ⟨wb,0,none⟩) ws.length ws.length)/\W.cell? ⟨mb,4,none⟩=some (.int .i64 i)) (first|go_keep|(refine ⟨?_,?_⟩ <;> assumption)) (first
    |(refine za6 (by rfl) _ _ (by rfl) H3.o.drew i _ _ _ _ _ (by rfl) (by rfl) xs (by rw[dk];exact (zzV (by omega)).symm) pJ.o br ?_;intro w5 h5 f5;have H5:=zab h5;have F5:=zab f5;have e0:=h5.c0;have e4:=h5.c4;simp only[zaY _ _ _ br]at e0 e4;clear h5 f5))
   all_goals
    go_wp2_with fail
    go_end0
    have f5:=F3.o.trans ((Fr.refl _ _).drew.trans F5.o);exact ⟨f5.zc9 fv,rfl,H5.o,HH.o.fat.fr f5,HH.o.fl,HH.o.fuel⟩
 ·cases hs
def ziu (k n t a:Int):Value:=.agg #[.int .i64 k,.int .i64 n,.int .i64 t,.int .i64 a]
theorem MAt.alloc{w:World}{mb wb:Nat}{fv:Value}{m:MSt}(h:MAt w mb wb fv m)(o:Obj):MAt (w.alloc o) mb wb fv m:=⟨h.sat.below (zam w o),h.fat.fr (Fr.below (zam w o)),h.fl,h.fuel⟩
variable {W:World}
theorem Blk.c4{s:Nat}{a b c d:Value}{ty:TypeId}(h:Blk W s [a,b,c,d] ty):W.cell? ⟨s,0,none⟩=some a/\W.cell? ⟨s,1,none⟩=some b/\W.cell? ⟨s,2,none⟩=some c/\W.cell? ⟨s,3,none⟩=some d:=
 ⟨by simpa using Blk.cell h 0,by simpa using Blk.cell h 1,by simpa using Blk.cell h 2,by simpa using Blk.cell h 3⟩
theorem Blk.zHj{s:Nat}{a b c d:Value}{ty:TypeId}(h:Blk W s [a,b,c,d] ty)(x y z u:Value):Blk ((((W.setCell ⟨s,0,none⟩ x).setCell ⟨s,1,none⟩ y).setCell ⟨s,2,none⟩ z).setCell ⟨s,3,none⟩ u) s [x,y,z,u] ty:=(((h.set 0 x).set 1 y).set 2 z).set 3 u
theorem Fr.zHj{K:Nat->Prop}{s:Nat}(h:Fr K w W)(hs:w.heap.size<=s)(x y z u:Value):Fr K w ((((W.setCell ⟨s,0,none⟩ x).setCell ⟨s,1,none⟩ y).setCell ⟨s,2,none⟩ z).setCell ⟨s,3,none⟩ u):=
 (((h.set _ x (.inr hs)).set _ y (.inr hs)).set _ z (.inr hs)).set _ u (.inr hs)
theorem zG7(h:MAt w mb wb fv m)(ha:m.s.nodeAt 0=some (a,y)){o:Int × Int × Int × Int}(ho:(y%16=0/\∃ v,m.s.ws[a+1]?=some v/\o=(1,v,0,0))\/(y%16=1/\o=(2,0,y/65536,y/16%4096))\/(y%16≠0/\y%16≠1/\o=(3,0,0,0))):
  Calls prog 48 #[.pointer (some ⟨mb,0,none⟩)] w fun e w'=>e=.returned (ziu o.1 o.2.1 o.2.2.1 o.2.2.2)/\Fr (fun _=>False) w w':=by
 obtain ⟨hx,hh⟩:=Sto.zaP ha;obtain ⟨hy,aT,bE,aU⟩:=Sto.zaU hh;have eo:(a:Int)<(m.s.ws.length:Int):=by omega
 have hlen:=h.sat.len;have CA:=zab (fun (W:World) (hW:MAt W mb wb fv m)=>zaA (d:=0) hW.sat _ hx);have CK:=zab (fun W:World=>za4 y W aT bE);have CW:=zab (fun W:World=>zbw y W aT bE);have CC:=zab (fun W:World=>za3 y W aT bE);generalize y/65536=tg at *;generalize y/16%4096=ct at *;have HH:=zab h;have HY:=zab hy;have iD:w.heap.size≠mb:=by have:=h.sat.blk.lt;omega
 clear h ha hx hh aT bE aU;generalize y%16=k at *;obtain ⟨rfl,v,hv,rfl⟩|⟨rfl,rfl⟩|⟨h0,h1,rfl⟩:=ho;have HV:Hid (∀ W,MAt W mb wb fv m->W.cell? ⟨wb,a+1,none⟩=some (.int .i64 v)):=zab fun W hW=>hW.sat.word hv
 have ji:(a:Int)+1<(m.s.ws.length:Int):=by have:=(zyL.1 hv).1;omega
 clear hv
 rotate_left 2
 have dF:(k == 0)=false:=by rw[beq_eq_false_iff_ne];exact h0
 have cK:(k == 1)=false:=by rw[beq_eq_false_iff_ne];exact h1
 clear h0 h1
 all_goals
  clear hy;go_enter func48,ntmps48
  go_wp2_with fail
  have HB:=zab (Blk.new w [.int .i64 0,.int .i64 0,.int .i64 0,.int .i64 0] 35);refine (CA.o _ (HH.o.alloc _)).mono ?_;rintro e w1 ⟨rfl,k1,aD⟩;have H1:Hid (MAt w1 mb wb fv m):=zab (by rw[aD];exact (HH.o.alloc _).drewN k1);have B1:Hid (Blk w1 w.heap.size [.int .i64 0,.int .i64 0,.int .i64 0,.int .i64 0] 35):=zab (by rw[aD];exact HB.o);have F1:Hid (Fr (fun _=>False) w w1):=zab (by rw[aD];exact ((Fr.refl _ _).alloc _).drewN k1);clear aD HB;have c0:=H1.o.sat.c0;have cy:=H1.o.sat.word HY.o
  try have cv:=HV.o _ H1.o
  obtain ⟨q0,q1,q2,q3⟩:=B1.o.c4;have g0:=Blk.frozen B1.o 0;have g1:=Blk.frozen B1.o 1;have g2:=Blk.frozen B1.o 2;have g3:=Blk.frozen B1.o 3;go_wp2_with fail
  refine (CK.o _).mono ?_;rintro e w2 ⟨rfl,aB⟩;subst w2;go_wp2_with fail
  try
   refine (CW.o _).mono ?_;rintro e w3 ⟨rfl,bL⟩;subst w3;go_wp2_with fail
   refine (CC.o _).mono ?_;rintro e w3 ⟨rfl,bL⟩;subst w3;go_wp2_with fail
  have p:=fun x y z u=>(B1.o.zHj x y z u).c4
  refine bodyPost_ret (by simp[results,Tryz.results48,go_sem,p];rfl) rfl ⟨rfl,?_⟩;exact F1.o.zHj (zyN _) _ _ _ _
def Sto.fill (s:Sto) (x:Int):Nat->Option Sto
 |0=>some s
 |k+1=>if s.free<s.ws.length then Sto.fill { s with ws:=s.ws.set s.free x,free:=s.free+1 } x k else none
def MSt.zjH (m:MSt) (hd:Int) (c:Nat):Option (Except Nat MSt):=aft (m.zdI (c+2)) fun m1=>
 m1.put ((m1.s.node hd []).bind fun s=>(s.fill m1.s.free c).bind fun q=>q.push m1.s.free)
theorem zpL(h:MAt w mb wb fv m)(jl:c<=1000000)(hc:m.zjH hd c=some r):
  Calls prog 134 #[.pointer (some ⟨mb,0,none⟩),.int .i64 hd,.int .i64 c] w fun e w'=>Ends w mb wb fv r e w':=by
 unfold MSt.zjH aft at hc;split at hc
 ·cases hc
 ·next k hn=>
  obtain rfl:=zyU hc;have CN:=zab (zaW h hn);simp only[zzq,zzJ]at CN;clear h hn hc;go_enter func134,ntmps134
  go_wp2_with fail
  refine CN.o.mono ?_;rintro e w1 ⟨f1,rfl,h1⟩;exact ⟨rfl,f1,rfl,h1⟩
 ·next m1 hn=>
  have CN:=zab (zaW h hn);simp only[zzq,zzJ]at CN;simp only[MSt.put,zyX,zyQ]at hc;obtain ⟨s4,⟨s2,bg,s3,nN,aM⟩,rfl⟩:=hc;have HN:=zab bg;have HF:=zab nN;have pH:=zab aM;obtain ⟨x,hx⟩:∃ x,m1.s.free=x:=⟨_,rfl⟩;rw[hx]at HF pH;have HX:=zab hx;clear h hn bg nN aM hx;go_enter func134,ntmps134
  go_wp2_with fail
  refine CN.o.mono ?_;rintro e w1 ⟨f1,rfl,h1⟩;have F1:=zab f1;have H1:=zab h1;clear f1 h1 CN;have CD:=zab (Sto.zej (sp:=none) (cp:=0) H1.o.sat HN.o (fun h0=>absurd h0 (by simp)));rw[HX.o]at CD;go_wp2_with fail
  refine CD.o.mono ?_;rintro e w2 ⟨rfl,h2,f2⟩;have H2:=zab h2;have F2:=zab f2;clear h2 f2 CD;go_wp2_with fail
  go_loopg [17] c (fun gk av wr=>∃ (j:Nat) (q:Sto),av=.int .i64 j/\j+gk=c/\SAt wr mb wb (zeu m1.o fv) q/\q.fill x gk=some s3/\Fr (M2 mb wb) w1 wr)
  case atStart=>exact ⟨0,s2,rfl,by omega,H2.o,HF.o,F2.o⟩
  case round=>
   obtain ⟨j,q,rfl,hj,hq,bZ,ak⟩:=hrel;cases gk with
   |zero=>
    have HQ:Hid (SAt wr mb wb (zeu m1.o fv) s3):=zab (by rw[<-zyU bZ];exact hq);have cY:=zab ak;have sy:¬ (j:Int)<(c:Int):=by omega
    clear hq bZ ak;go_wp2_with fail
    refine (Sto.zb5 HQ.o pH.o).mono ?_;rintro e w5 ⟨rfl,h5,f5⟩;have H5:=zab h5;have F5:=zab (cY.o.trans f5);clear h5 f5;go_wp2_with fail
    first|go_end0|refine bodyPost_ret (results_none rfl _ _ _) rfl ?_
    exact ⟨F1.o.trans (F5.o.zc9 fv),rfl,H1.o.fr2 H5.o F5.o⟩
   |succ g=>
    rw[Sto.fill]at bZ;split at bZ
    ·next aj=>
     obtain ⟨ws,hf,lo,fr,tp⟩:=q;simp only at aj bZ;have sy:(j:Int)<(c:Int):=by omega
     have c0:=hq.c0;have c3:=hq.c3;have cw:=hq.zko (i:=fr) aj;have cf:=hq.zeC.frozen fr;have fP:=zcj hq.ne;simp only at c0 c3 cw;have aA:(fr:Int)<(ws.length:Int):=by omega
     have aw:(0:Int)<=(fr:Int):=by omega
     have hlen:ws.length<=1000000:=hq.len;have HQ:=zab hq;have cY:=zab ak;have pG:=zab bZ;clear hq bZ ak;go_wp2_with fail
     go_region_held3 (fun W=>W.cell? ⟨mb,0,none⟩=some (.slice (some ⟨wb,0,none⟩) ws.length ws.length)/\W.cell? ⟨mb,3,none⟩=some (.int .i64 fr)) (go_keep) (fail)
     all_goals
      have H5:=zab (HQ.o.zcB fr x).drew;have F5:Hid (Fr (M2 mb wb) w1 ((wr.setCell ⟨wb,fr,none⟩ (.int .i64 x)).drew)):=zab (cY.o.set _ _ (.inl (.inr rfl))).drew;generalize (wr.setCell ⟨wb,fr,none⟩ (.int .i64 x)).drew=w5 at H5 F5;clear c0 c3 cw cf;have d3:=H5.o.c3;have df:=H5.o.blk.frozen 3;simp only at d3;go_wp2_with fail
      go_roundg g
      case measure=>omega
      case rel=>
       refine ⟨j+1,_,by go_num,by omega,H5.o.zjP (fr+1) (by omega),pG.o,?_⟩;exact F5.o.set _ _ (.inl (.inl rfl))
    ·cases bZ
theorem zxp:(prog.info? 2).map (fun i=>(i.size,i.bytes,i.zero))=some (1,8,some (.int .i64 0)):=by kernel_rfl
theorem zyq(n:Nat):madeCells (Value.cells (.int .i64 0)) n=(zdG (List.replicate n 0)).toArray:=by
 apply Array.ext
 ·simp[madeCells,zdG]
 ·intro i h1 h2;simp[madeCells,zdG,Value.cells,Nat.mod_one]
theorem ziP(hn:n<=1000000)(W:World):(Instr.makeSlice 76 (.int .i64 (n:Int)) (.int .i64 (n:Int))).run prog W=.ok (.slice (some ⟨W.heap.size,0,none⟩) n n) (W.alloc (.cells (zdG (List.replicate n 0)).toArray 2)):=by
 obtain ⟨i,hi,he⟩:=zyX.1 zxp;simp only[zzL]at he;obtain ⟨h1,h2,h3⟩:=he;have:=run_make (P:=prog) W 76 2 i (.int .i64 0) underlying76 hi h3 .i64 .i64 n n (by omega) (by omega) (by rw[h2];omega) (by omega);rw[this,h1,zy2,zAt,zyq]
theorem zih(hn:n<=1000000):
  Calls prog 44 #[.int .i64 n] w fun e w'=>e=.returned (.agg #[.slice (some ⟨w.heap.size+1,0,none⟩) n n,.int .i64 ((n:Int)/2),.int .i64 0,.int .i64 0,.int .i64 ((n:Int)/2)])/\Blk w' (w.heap.size+1) (zdG (List.replicate n 0)) 2/\Fr (fun _=>False) w w':=by
 have hb:(n:Int)<=1000000:=by omega
 have kf:(0:Int)<=(n:Int):=by omega
 have HM:=ziP hn;obtain ⟨vs,gW⟩:∃ vs,zdG (List.replicate n 0)=vs:=⟨_,rfl⟩;rw[gW]at HM ⊢;clear gW;go_enter func44,ntmps44
 go_wp2_with fail
 generalize (n:Int)/2=q;have cE:=(Blk.new w [.slice (some ⟨w.heap.size+1,0,none⟩) n n,.int .i64 q,.int .i64 0,.int .i64 0,.int .i64 q] 78).alloc (.cells vs.toArray 2);have BV:=Blk.new (w.alloc (.cells #[.slice (some ⟨w.heap.size+1,0,none⟩) n n,.int .i64 q,.int .i64 0,.int .i64 0,.int .i64 q] 78)) vs 2;rw[show (w.alloc (.cells #[.slice (some ⟨w.heap.size+1,0,none⟩) n n,.int .i64 q,.int .i64 0,.int .i64 0,.int .i64 q] 78)).heap.size=w.heap.size+1 by simp]at BV;have p0:=Blk.cell cE 0;have p1:=Blk.cell cE 1;have p2:=Blk.cell cE 2;have p3:=Blk.cell cE 3;have p4:=Blk.cell cE 4;simp only[zzl,zzT]at p0 p1 p2 p3 p4;refine bodyPost_ret (by simp[results,Tryz.results44,go_sem,p0,p1,p2,p3,p4]) rfl ⟨rfl,BV,((Fr.refl _ _).alloc _).alloc _⟩
def MSt.extended (m:MSt) (has c:Nat):Option MSt:=
 match m.s.nodeAt 0 with
 |none=>none
 |some (a,y)=>if has+c<4096/\y/65536<=1000000000/\a+1+cnt y<=m.s.ws.length/\(m.s.free<a+1\/a+1+cnt y<=m.s.free)/\1<=c then
   match m.s.node (Hd 2 (y/65536).toNat (has+c)) (m.s.words (a+1) (cnt y)) with
   |none=>none
   |some s2=>if s2.ws[a]?=some y/\s2.ws.length=m.s.ws.length/\s2.top+2+c<=s2.ws.length/\s2.free+c<=s2.ws.length then
     (Sto.pop { s2 with ws:=Go.splice s2.ws s2.free (s2.words (s2.top+2) c),free:=s2.free+c } (2+c)).bind fun s4=>(s4.push m.s.free).map fun s5=>{ m with s:=s5 }
    else none
  else none
def MSt.extend (m:MSt) (c:Nat):Option (Except Nat MSt):=
 match m.s.nodeAt 0 with
 |none=>none
 |some (_,y)=>aft (m.zdI (1+cnt y+c)) fun m1=>(m1.extended (cnt y) c).map .ok
theorem zvj{tp R:Nat}(hR:R≠0):∀ W:World,(Instr.slice 76 (.slice (some ⟨wb,tp,none⟩) (2+c) (R+2)) (some (.int .i64 2)) none none).run prog W=.ok (.slice (some ⟨wb,tp+2,none⟩) c R) W:=by
 intro W;rw[run_slice_l W 76 _ _ _ underlying76 .i64 2 (by omega) (by omega)];have e3:prog.elem 76=2:=by kernel_rfl
 rw[e3,sizeOf2];have e4:((2:Int)).toNat=2:=rfl;simp only[Result.andThen,sliced,e4,zAt,zzP,zbe];rw[if_neg (by omega),show 2+c-2=c by omega,show R+2-2=R by omega]
theorem zrq(h:MAt w mb wb fv m)(jl:c<=1000000)(hb:m.extend c=some r):
  Calls prog 255 #[.pointer (some ⟨mb,0,none⟩),.int .i64 c] w fun e w'=>Ends w mb wb fv r e w':=by
 unfold MSt.extend at hb;split at hb
 ·cases hb
 rename_i a y ha;cases hn:m.zdI (1+cnt y+c) with
 |none=>rw[hn]at hb;cases hb
 |some r0=>_
 rw[hn]at hb;obtain ⟨hx,hh⟩:=Sto.zaP ha;obtain ⟨hy,aT,bE,aU⟩:=Sto.zaU hh;have c0:=h.sat.c0;have cy:=h.sat.word hy;have eo:(a:Int)<(m.s.ws.length:Int):=by omega
 have CC:=zab (fun W:World=>za3 y W aT bE);rw[zh9 aT]at CC;have aN:=zf2 y;have CA:=zab (fun n:Nat=>zaA (d:=0) (h.drewN n).sat _ hx);have HH:=zab h;have HN:=zab hn;have HE:=zab hb;have CN:=zab (fun (W:World) (hW:MAt W mb wb fv m)=>zaW hW hn);simp only[zzq,zzJ]at CN;generalize cnt y=k at *;have kj:(k:Int)<4096:=by omega
 have jj:(c:Int)<=1000000:=by omega
 clear h ha hx hy hh hn aT bE aU jl hb;go_enter func255,ntmps255
 go_wp2_with fail
 go_quiet ((first|(go_at_call 82;exact Calls.quiet_of (CA.o _))|(go_at_call 85;exact Calls.quiet_of_same (CC.o _))))
 have H1:=zab (HH.o.drewN nq);have F1:Hid (Fr (MB mb wb fv) w (w.drewN nq)):=zab ((Fr.refl _ _).drewN nq);generalize w.drewN nq=w1 at H1 F1;clear c0 cy;go_wp2_with fail
 refine (CN.o _ H1.o).mono ?_;rintro e w2 ⟨f2,h2⟩;have he:=HE.o;rcases r0 with j|m1
 ·obtain ⟨rfl,h2⟩:=h2;obtain rfl:=zyU he;exact ⟨rfl,F1.o.trans f2,rfl,h2⟩
 obtain ⟨rfl,h2⟩:=h2;simp only[aft,zyX]at he;obtain ⟨m',he,rfl⟩:=he;unfold MSt.extended at he;split at he
 ·cases he
 rename_i a1 y1 gm;split at he
 rotate_left
 ·cases he
 rename_i hg;split at he
 ·cases he
 rename_i s2 bg;obtain ⟨ws,hf,lo,fr,tp⟩:=s2;simp only at he;split at he
 rotate_left
 ·cases he
 rename_i aF;simp only[zyQ,zyX]at he;obtain ⟨s4,dW,s5,aM,rfl⟩:=he;obtain ⟨ee,sq⟩:=Sto.zaP gm;obtain ⟨hz,bq,aP,oR⟩:=Sto.zaU sq;have CW:=zab (fun W:World=>zbw y1 W bq aP);obtain ⟨b,hb⟩:∃ b:Nat,y1/65536=b:=⟨(y1/65536).toNat,by omega⟩;rw[hb]at CW hg;rw[hb,zy2]at bg;have CH:=zab (fun W:World=>zbt 2 b (k+c) W (by omega) (by omega) (by omega));simp only[zzq]at CH;obtain ⟨z,kk⟩:∃ z,Hd 2 b (k+c)=z:=⟨_,rfl⟩;rw[kk]at CH bg;obtain ⟨L,hL⟩:∃ L,m1.s.ws.length=L:=⟨_,rfl⟩;have Gs:L<=1000000:=by have:=zmx HN.o;have:=HH.o.sat.len;omega
 have tD:ws.length=L:=by rw[<-hL];exact aF.2.1
 obtain ⟨R,hR⟩:∃ R,L=tp+(R+2):=⟨L-tp-2,by omega⟩;have rT:(c:Int)<=(R:Int):=by omega
 have rI:R≠0:=by omega
 have nI:(R:Int)<=1000000:=by omega
 have ak:fr+c<=L:=by omega
 have Aa:(a1:Int)<(L:Int):=by omega
 have dk:(Sto.words ⟨ws,hf,lo,fr,tp⟩ (tp+2) c).length=c:=Sto.zcR (by simp only;omega);have lK:∀ (j:Nat) x,(Sto.words ⟨ws,hf,lo,fr,tp⟩ (tp+2) c)[j]?=some x->ws[tp+2+j]?=some x:=fun j x hj=>(Sto.zd7 hj).2
 generalize Sto.words ⟨ws,hf,lo,fr,tp⟩ (tp+2) c=xs at dk lK dW;have mD:=zab lK;have HR:=zab hR;have yW:=zab ak;have jg:=zab tD;have HL:=zab hL;have eR:=zab ee;have HZ:=zab (And.intro hz (And.intro bq (And.intro aP hg.2.2.1)));have ue:=zab (And.intro bg hg.2.2.2.1);have eK:=zab aF;have kE:=zab dW;have je:=zab aM;have jj:(c:Int)<4096:=by omega
 have bH:=hg.2.2.2.2;clear gm ee sq hz bq aP oR hg aF bg dW aM hb kk lK tD hL hR ak;have H2:=zab h2;have F2:=zab (F1.o.trans f2);clear h2 f2 CN;go_wp2_with fail
 refine (zaA (d:=0) H2.o.sat _ eR.o).mono ?_;rintro e w3 ⟨rfl,k3,bL⟩;have H3:Hid (MAt w3 mb wb fv m1):=zab (by rw[bL];exact H2.o.drewN k3);have F3:Hid (Fr (MB mb wb fv) w w3):=zab (by rw[bL];exact F2.o.drewN k3);clear bL;have c0:=H3.o.sat.c0;rw[HL.o]at c0;have cy:=H3.o.sat.word HZ.o.1;have uS:IntKind.i64.wrap ((k:Int)+(c:Int))=(k:Int)+(c:Int):=zbc _ (by omega) (by omega);go_wp2_with fail
 go_region_held3 (fun W=>W.cell? ⟨mb,0,none⟩=some (.slice (some ⟨wb,0,none⟩) L L)/\W.cell? ⟨wb,a1,none⟩=some (.int .i64 y1)) (first|go_keep|(refine ⟨?_,?_⟩ <;> assumption)) (first
  |(go_at_call 84;refine (CW.o _).mono ?_;rintro e w4 ⟨rfl,uR⟩;subst w4)
  |(go_at_call 75;refine (CH.o _).mono ?_;rintro e w4 ⟨rfl,uR⟩;subst w4)
  |(go_at_call 135;refine (zcA H3.o.sat.drew a1 y1 HZ.o.1 HZ.o.2.1 HZ.o.2.2.1 HZ.o.2.2.2).mono ?_;rintro e w5 ⟨rfl,k5,dK⟩;have H5:Hid (SAt w5 mb wb (zeu m1.o fv) m1.s):=zab (by rw[dK];exact H3.o.sat.drew.drewN k5);have F5:Hid (Fr (M2 mb wb) w3 w5):=zab (by rw[dK];exact (Fr.refl _ _).drew.drewN k5);have e0:w5.cell? ⟨mb,0,none⟩=some (.slice (some ⟨wb,0,none⟩) L L):=(by rw[H5.o.c0,HL.o]);have ey:=H5.o.word HZ.o.1;clear dK)
  |(go_at_call 74;refine (Sto.zqI H5.o ue.o.1 ue.o.2 HZ.o.2.2.2 (fun h0=>zbT (by have:=HZ.o.2.2.2;omega))).mono ?_;rintro e w6 ⟨rfl,h6,f6⟩;have H6:=zab h6;have F6:=zab (F5.o.trans f6);have g0:w6.cell? ⟨mb,0,none⟩=some (.slice (some ⟨wb,0,none⟩) L L):=(by rw[h6.c0];simp only;rw[jg.o]);have gy:=h6.word eK.o.1;clear h6 f6))
 all_goals
  clear c0 cy e0 ey g0 gy;have hR:=HR.o;have ak:=yW.o;have c0:w6.cell? ⟨mb,0,none⟩=some (.slice (some ⟨wb,0,none⟩) L L):=by rw[H6.o.c0];simp only;rw[jg.o]
  have c3:w6.cell? ⟨mb,3,none⟩=some (.int .i64 fr):=H6.o.c3;have CS:=zab (zeZ H6.o.drew (2+c) (by simp only;rw[jg.o];omega));simp only[zzq,zzJ,jg.o,zbT (show tp<L by omega),show L-tp=R+2 by omega]at CS;have aA:(fr:Int)<=(L:Int):=by omega
  have aw:(0:Int)<=(fr:Int):=by omega
  have aj:fr<L:=by omega
  have aH:¬ L=fr:=by omega
  have tC:IntKind.i64.wrap (2+(c:Int))=2+(c:Int):=zbc _ (by omega) (by omega);have aJ:fr+xs.length<=ws.length:=by rw[jg.o];omega
  have fZ:=zab aJ;have py:=zvj (wb:=wb) (tp:=tp) (c:=c) rI;clear hR aJ;go_wp2_with fail
  go_region_held3 (fun W=>W.cell? ⟨mb,0,none⟩=some (.slice (some ⟨wb,0,none⟩) L L)/\W.cell? ⟨mb,3,none⟩=some (.int .i64 fr)) (first|go_keep|(refine ⟨?_,?_⟩ <;> assumption)) (first
   |(go_at_call 136;refine CS.o.mono ?_;rintro e w7 ⟨rfl,k7,og⟩;have H7:Hid (SAt w7 mb wb (zeu m1.o fv) ⟨ws,hf,lo,fr,tp⟩):=zab (by rw[og];exact H6.o.drew.drewN k7);have F7:Hid (Fr (M2 mb wb) w3 w7):=zab (by rw[og];exact F6.o.drew.drewN k7);have d0:w7.cell? ⟨mb,0,none⟩=some (.slice (some ⟨wb,0,none⟩) L L):=(by rw[H7.o.c0];simp only;rw[jg.o]);have d3:w7.cell? ⟨mb,3,none⟩=some (.int .i64 fr):=H7.o.c3;clear og)
   |(refine za6 (by rfl) _ _ (by rfl) H7.o fr _ _ _ _ _ (by rfl) (by rfl) xs (by rw[dk];exact (zzV (by omega)).symm) (fun h0=>⟨_,rfl,fun j x hj=>by rw[zbe];exact H7.o.word (mD.o j x hj)⟩) fZ.o ?_;intro w8 h8 f8;have H8:=zab h8;have F8:=zab (F7.o.trans f8);have e0:w8.cell? ⟨mb,0,none⟩=some (.slice (some ⟨wb,0,none⟩) L L):=(by rw[h8.c0];simp only;rw[zaY _ _ _ fZ.o,jg.o]);have e3:w8.cell? ⟨mb,3,none⟩=some (.int .i64 fr):=h8.c3;clear h8 f8))
  all_goals
   clear c0 c3 d0 d3 e0 e3 py aH aj aA aw;have c3:w8.cell? ⟨mb,3,none⟩=some (.int .i64 fr):=H8.o.c3;have cf:=H8.o.blk.frozen 3;have ak:=yW.o;have Fu:IntKind.i64.wrap ((fr:Int)+(c:Int))=(fr:Int)+(c:Int):=zbc _ (by omega) (by omega);have H9:=zab (H8.o.zjP (fr+c) (by omega));have F9:Hid (Fr (M2 mb wb) w3 (w8.setCell ⟨mb,3,none⟩ (.int .i64 ((fr+c:Nat):Int)))):=zab (F8.o.set _ _ (.inl (.inl rfl)));have yI:=zab (fun (W:World) (hW:SAt W mb wb (zeu m1.o fv) _)=>Sto.zbQ hW kE.o);simp only[zzq,zzJ]at yI H9 F9;clear ak;go_wp2_with fail
   generalize w8.setCell ⟨mb,3,none⟩ (.int .i64 ((fr:Int)+(c:Int)))=w9 at H9 F9 ⊢;clear c3 cf;go_wp2_with fail
   refine (yI.o _ H9.o).mono ?_;rintro e pB ⟨rfl,uz,f10⟩;have Bz:=zab uz;have Br:=zab (F9.o.trans f10);clear uz f10;go_wp2_with fail
   refine (Sto.zb5 Bz.o je.o).mono ?_;rintro e yE ⟨rfl,zA,f11⟩;have ot:=zab zA;have mo:=zab (Br.o.trans f11);clear zA f11;go_wp2_with fail
   first|go_end0|refine bodyPost_ret (results_none rfl _ _ _) rfl ?_
   exact ⟨F3.o.trans (mo.o.zc9 fv),rfl,H3.o.fr2 ot.o mo.o⟩
theorem zqH(h:m.zdI c=some (.ok m')):m'.o=m.o:=by
 unfold MSt.zdI at h;split at h
 ·cases h;rfl
 ·split at h
  ·cases h
  ·split at h
   ·cases h
   ·cases h;rfl
theorem zqt(h:m.extend c=some (.ok m')):m'.o=m.o:=by
 unfold MSt.extend at h;split at h
 ·cases h
 ·unfold aft at h;split at h
  ·cases h
  ·cases h
  ·next m1 hn=>
   simp only[zyX]at h;obtain ⟨m2,h2,h3⟩:=h;cases h3;rw[<-zqH hn];unfold MSt.extended at h2;split at h2
   ·cases h2
   ·split at h2
    ·split at h2
     ·cases h2
     ·split at h2
      ·simp only[zyQ,zyX]at h2;obtain ⟨s4,_,s5,_,rfl⟩:=h2;rfl
      ·cases h2
    ·cases h2
def EndsB (w:World) (mb wb:Nat) (fv:Value) (r:Except Nat (Bool × MSt)) (e:Ending) (w':World):Prop:=
 Fr (MB mb wb fv) w w'/\match r with
 |.ok q=>e=.returned (.bool q.1)/\MAt w' mb wb fv q.2
 |.error k=>e=up k/\∃ m',MAt w' mb wb fv m'
def MSt.za5 (m:MSt) (sl:List Nat) (c:Nat):Option (Except Nat (Bool × MSt)):=
 match m.s.nodeAt 0 with
 |none=>none
 |some (a,_)=>
  match m.s.zfJ sl a with
  |none=>none
  |some l=>if l<0 then some (.error 3) else
   if (c:Int)<l then (match m.extend c with|none=>none|some (.error k)=>some (.error k)|some (.ok m')=>some (.ok (false,m')))
   else if 2000000<c then none
   else (match m.call l.toNat (c-l.toNat) with|none=>none|some (.error k)=>some (.error k)|some (.ok m')=>some (.ok (true,m')))
theorem zvL{pv:Value}(hB:BAt w mb wb fv pv sl)(hl:s.zfJ sl a=some l):l<=1000000:=by
 obtain ⟨_,_,_,_,_,h4⟩:=hB;unfold Sto.zfJ at hl;split at hl
 ·cases hl
 ·split at hl
  ·cases hl
  ·split at hl
   ·split at hl
    ·cases hl
    ·next n hn=>
     obtain rfl:=zyU hl;have:=(h4 _ n hn).1;omega
   ·obtain rfl:=zyU hl;omega
theorem zsv{r:Except Nat (Bool × MSt)}(h:MAt w mb wb fv m)(hB:BAt w mb wb fv m.o.pb sl)(hb:m.za5 sl c=some r)(jl:c<=1000000000):
  Calls prog 205 #[.pointer (some ⟨mb,0,none⟩),.int .i64 c] w fun e w'=>EndsB w mb wb fv r e w':=by
 unfold MSt.za5 at hb;split at hb
 ·cases hb
 ·next a y ha=>
  obtain ⟨hx,hh⟩:=Sto.zaP ha;split at hb
  ·cases hb
  ·next l hl=>
   have CA:=zab (zaA (d:=0) h.sat _ hx);have CL:=zab (fun (W:World) (hW:MAt W mb wb fv m) (rM:BAt W mb wb fv m.o.pb sl)=>zjp hW rM hl);have HH:=zab h;have HB:=zab hB;have o5:l<=1000000:=zvL hB hl;split at hb
   ·next dV=>
    obtain rfl:=zyU hb;clear h hB ha hx hh hl;go_enter func205,ntmps205
    go_wp2_with fail
    refine CA.o.mono ?_;rintro e w1 ⟨rfl,k1,aD⟩;have H1:Hid (MAt w1 mb wb fv m):=zab (by rw[aD];exact HH.o.drewN k1);have F1:Hid (Fr (MB mb wb fv) w w1):=zab (by rw[aD];exact (Fr.refl _ _).drewN k1);clear aD;go_wp2_with fail
    refine (CL.o _ H1.o (HB.o.fr F1.o)).mono ?_;rintro e w2 ⟨rfl,k2,aB⟩;have H2:Hid (MAt w2 mb wb fv m):=zab (by rw[aB];exact H1.o.drewN k2);have F2:Hid (Fr (MB mb wb fv) w w2):=zab (by rw[aB];exact F1.o.drewN k2);clear aB;go_wp2_with fail
    refine (zce 3 _).mono ?_;rintro e w4 ⟨rfl,uR⟩;subst w4;exact ⟨rfl,F2.o,rfl,_,H2.o⟩
   ·next dV=>
    obtain ⟨n,rfl⟩:∃ n:Nat,l=n:=⟨l.toNat,by omega⟩;rw[zy2]at hb;split at hb
    ·next aj=>
     have xp:c<=1000000:=by omega
     obtain ⟨q,hq⟩:∃ q,m.extend c=some q:=by
      cases hq:m.extend c with
      |none=>rw[hq]at hb;cases hb
      |some q=>exact ⟨q,rfl⟩
     rw[hq]at hb;have CE:=zab (fun (W:World) (hW:MAt W mb wb fv m)=>zrq hW xp hq);clear h hB ha hx hh hl dV;have lq:¬ (n:Int)<0:=by omega
     go_enter func205,ntmps205
     go_wp2_with fail
     refine CA.o.mono ?_;rintro e w1 ⟨rfl,k1,aD⟩;have H1:Hid (MAt w1 mb wb fv m):=zab (by rw[aD];exact HH.o.drewN k1);have F1:Hid (Fr (MB mb wb fv) w w1):=zab (by rw[aD];exact (Fr.refl _ _).drewN k1);clear aD;go_wp2_with fail
     refine (CL.o _ H1.o (HB.o.fr F1.o)).mono ?_;rintro e w2 ⟨rfl,k2,aB⟩;have H2:Hid (MAt w2 mb wb fv m):=zab (by rw[aB];exact H1.o.drewN k2);have F2:Hid (Fr (MB mb wb fv) w w2):=zab (by rw[aB];exact F1.o.drewN k2);clear aB;go_wp2_with fail
     refine (CE.o _ H2.o).mono ?_;cases q with
     |error k=>
      obtain rfl:=zyU hb;rintro e w3 ⟨f3,rfl,h3⟩;exact ⟨rfl,F2.o.trans f3,rfl,h3⟩
     |ok m'=>
      obtain rfl:=zyU hb;rintro e w3 ⟨f3,rfl,h3⟩;have F3:=zab (F2.o.trans f3);have H3:=zab h3;clear f3 h3 hb;go_wp2_with fail
      go_ret
      exact ⟨F3.o,rfl,H3.o⟩
    ·next aj=>
     split at hb
     ·cases hb
     ·next Eg=>
      obtain ⟨q,hq⟩:∃ q,m.call n (c-n)=some q:=by
       cases hq:m.call n (c-n) with
       |none=>rw[hq]at hb;cases hb
       |some q=>exact ⟨q,rfl⟩
      rw[hq]at hb;obtain ⟨d,hd⟩:∃ d,c-n=d:=⟨_,rfl⟩;rw[hd]at hq;have pg:IntKind.i64.wrap ((c:Int)-(n:Int))=(d:Int):=by rw[zbc _ (by omega) (by omega)];omega
      have CE:=zab (fun (W:World) (hW:MAt W mb wb fv m)=>zve hW hq);clear h hB ha hx hh hl dV;have lq:¬ (n:Int)<0:=by omega
      clear hd;go_enter func205,ntmps205
      go_wp2_with fail
      refine CA.o.mono ?_;rintro e w1 ⟨rfl,k1,aD⟩;have H1:Hid (MAt w1 mb wb fv m):=zab (by rw[aD];exact HH.o.drewN k1);have F1:Hid (Fr (MB mb wb fv) w w1):=zab (by rw[aD];exact (Fr.refl _ _).drewN k1);clear aD;go_wp2_with fail
      refine (CL.o _ H1.o (HB.o.fr F1.o)).mono ?_;rintro e w2 ⟨rfl,k2,aB⟩;have H2:Hid (MAt w2 mb wb fv m):=zab (by rw[aB];exact H1.o.drewN k2);have F2:Hid (Fr (MB mb wb fv) w w2):=zab (by rw[aB];exact F1.o.drewN k2);clear aB;go_wp2_with fail
      refine (CE.o _ H2.o).mono ?_;cases q with
      |error k=>
       obtain rfl:=zyU hb;rintro e w3 ⟨f3,rfl,h3⟩;exact ⟨rfl,F2.o.trans f3,rfl,h3⟩
      |ok m'=>
       obtain rfl:=zyU hb;rintro e w3 ⟨f3,rfl,h3⟩;have F3:=zab (F2.o.trans f3);have H3:=zab h3;clear f3 h3 hb;go_wp2_with fail
       go_ret
       exact ⟨F3.o,rfl,H3.o⟩
end Go.Proofs.YtgahgkddaljmkaaGreatDoor
