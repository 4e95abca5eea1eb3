/- Mach12 .. Mach25 -/
import Derived.Test.YtgahgkddaljmkaaGreatDoorV1
set_option maxRecDepth 100000
set_option maxHeartbeats 4000000
namespace Go.Proofs.YtgahgkddaljmkaaGreatDoor
open Tryz Th
open Go.RowKit
attribute [local go_sem ↓] Go.wp_at_zero Go.wp_at_succ
variable {w:World}{mb wb:Nat}{fv:Value}{s:nG}
theorem qS.c5{o:SR}(h:qS w mb wb (MU o fv) s):w.cell? ⟨mb,5,none⟩=some o.pb:=h.blk.cell 5
theorem qS.Qy{o:SR}(h:qS w mb wb (MU o fv) s):w.cell? ⟨mb,10,none⟩=some (.int .i64 o.next):=h.blk.cell 10
theorem qS.Sg{o:SR}(h:qS w mb wb (MU o fv) s):w.cell? ⟨mb,11,none⟩=some (.int .i64 o.below):=h.blk.cell 11
variable {m:l0}
theorem zlc(h:qW w mb wb fv m){b:Nat}(hb:m.o.below=b)(aA:b<=2000000):
  Calls prog 207 #[.pointer (some ⟨mb,0,none⟩)] w λe w'=>e=.returned (.int .i64 ((m.s.low:Int)+(m.s.half:Int)-(b:Int)))/\∃n,w'=w.drewN n:=by
 have Sg:=h.sat.Sg;rw[hb]at Sg;have b1:=h.sat.half;have b2:=h.sat.low;have CE:=eu (λn:Nat=>Vy (h.sat.drewN n));simp only[OC]at CE;clear h hb;go_enter func207,ntmps207;go_wp2_with fail
 go_quiet ((go_at_call 78;exact qV (CE.o _)))
 go_wp2;go_ret;exact⟨by simp,_,rfl⟩
def l0.slot (m:l0) (k:Nat):Option Nat:=if 0<=m.o.below/\m.o.below+1+(k:Int)<=(m.s.low:Int)+(m.s.half:Int)then some ((m.s.low:Int)+(m.s.half:Int)-m.o.below-1-(k:Int)).toNat else none
variable {k:Nat}
theorem zqT{i:Nat}(h:m.slot k=some i):∃b:Nat,m.o.below=b/\b+1+k+i=m.s.low+m.s.half:=by
 unfold l0.slot at h;split at h
 .next hg=>obtain rfl:=J8 h;exact⟨m.o.below.toNat,by omega,by omega⟩
 .cases h
theorem zqS(h:qW w mb wb fv m){i:Nat}(hk:m.slot k=some i):
  Calls prog 131 #[.pointer (some ⟨mb,0,none⟩),.int .i64 k] w λe w'=>e=.returned (.int .i64 i)/\∃n,w'=w.drewN n:=by
 obtain⟨b,hb,hs⟩:=zqT hk;have b1:=h.sat.half;have b2:=h.sat.low;have CB:=eu (zlc h hb (by omega));have he:(m.s.low:Int)+(m.s.half:Int)-(b:Int)=1+(k:Int)+(i:Int):=by omega
 rw[he]at CB;have b3:(k:Int)+(i:Int)<=2000000:=by omega
 clear h hk hb hs he b1 b2;go_enter func131,ntmps131;go_wp2_with fail;refine CB.o.mono ?_;rintro e w1⟨rfl,n,rfl⟩;go_wp2;go_ret;exact⟨Tr (by omega),_,rfl⟩
def l0.numberAt (m:l0) (d:Nat):Option (Except Nat Int):=
 match m.s.ws[m.s.top+d]? with
 |none=>none
 |some x=>if x<0 then none else
  match m.s.ws[x.toNat]? with
  |none=>none
  |some y=>if y<0\/9223372036854775808<=y then none else
   if y%16=0 then
    match m.s.ws[x.toNat+1]? with
    |none=>none
    |some v=>some (.ok v)
   else some (.error 3)
def zw5 (r:Except Nat Int) (e:Ending):Prop:=
 match r with
 |.ok v=>e=.returned (.int .i64 v)
 |.error k=>e=up k
theorem Vf(h:qW w mb wb fv m){d:Nat}{r:Except Nat Int}(hr:m.numberAt d=some r):
  Calls prog 140 #[.pointer (some ⟨mb,0,none⟩),.int .i64 d] w λe w'=>(∃n,w'=w.drewN n)/\zw5 r e:=by
 unfold l0.numberAt at hr;split at hr
 .cases hr
 .next x hx=>
  split at hr
  .cases hr
  .next cX=>
   split at hr
   .cases hr
   .next y hy=>
    split at hr
    .cases hr
    .next aT=>
     obtain⟨a,rfl⟩:∃a:Nat,x=a:=⟨x.toNat,by omega⟩;simp only[MO]at hy hr;have CA:=eu (P6 h.sat d _ hx);have aU:=(Dq.1 hy).1;have eo:(a:Int)<(m.s.ws.length:Int):=by omega
     have hlen:=h.sat.len;have HH:=eu h;have CK:=eu (λW:World=>QM y W (by omega));have HY:=eu hy;clear h hx cX hy;by_cases hk:y%16=0
     .rw[nB hk]at hr;split at hr
      .cases hr
      .next v hv=>
       obtain rfl:=J8 hr;rw[hk]at CK;have ji:=(Dq.1 hv).1;have Ac:(a:Int)+1<(m.s.ws.length:Int):=by omega
       have HV:=eu hv;clear hr hk hv aT;go_enter func140,ntmps140;go_wp2_with fail;refine CA.o.mono ?_;rintro e w1⟨rfl,n,aD⟩;have H1:Hid (qW w1 mb wb fv m):=eu (by rw[aD];exact HH.o.drewN n);have HW:=eu aD;clear aD;have c0:=H1.o.sat.c0;have ca:=H1.o.sat.word HY.o;have cb:=H1.o.sat.word HV.o;go_wp2_with fail;refine(CK.o _).mono ?_;rintro e w2⟨rfl,rfl⟩;go_wp2;go_ret;exact⟨⟨n,HW.o⟩,rfl⟩
     .rw[pL hk]at hr;obtain rfl:=J8 hr;have lj:(y%16 == 0)=false:=by rw[kJ];exact hk
      have dF:0<=y%16:=by omega
      have cK:y%16<16:=by omega
      generalize y%16=z at CK hk lj dF cK;clear hr hk aT;go_enter func140,ntmps140;go_wp2_with fail;refine CA.o.mono ?_;rintro e w1⟨rfl,n,aD⟩;have H1:Hid (qW w1 mb wb fv m):=eu (by rw[aD];exact HH.o.drewN n);have HW:=eu aD;clear aD;have c0:=H1.o.sat.c0;have ca:=H1.o.sat.word HY.o;go_wp2_with fail;refine(CK.o _).mono ?_;rintro e w2⟨rfl,rfl⟩;go_wp2_with fail;refine(Tm 3 _).mono ?_;rintro e w4⟨rfl,rfl⟩;exact⟨rfl,⟨n,HW.o⟩,rfl⟩
def nG.push (s:nG) (x:Int):Option nG:=if 1<=s.top/\s.top<=s.ws.length then some { s with top:=s.top-1,ws:=s.ws.set (s.top-1) x }else none
def nG.node (s:nG) (hd:Int) (xs:List Int):Option nG:=if s.free+1+xs.length<=s.ws.length then some { s with free:=s.free+1+xs.length,ws:=Go.splice (s.ws.set s.free hd) (s.free+1) xs }else none
def nG.pop (s:nG) (c:Nat):Option nG:=if s.top+c<=1000000 then some { s with top:=s.top+c }else none
theorem nG.zb5{w:World}{mb wb:Nat}{tl:List Value}{s s':nG}(h:qS w mb wb tl s){x:Int}(hx:s.push x=some s'):
  Calls prog 76 #[.pointer (some ⟨mb,0,none⟩),.int .i64 x] w λe w'=>e=.returned (.tuple #[])/\qS w' mb wb tl s'/\Fr (M2 mb wb) w w':=by
 unfold nG.push at hx;split at hx
 .next hg=>obtain rfl:=J8 hx;exact Go.Proofs.YtgahgkddaljmkaaGreatDoor.zb5 h x hg.1 hg.2
 .cases hx
abbrev I9:=@nG.zb5
theorem nG.Yf{w:World}{mb wb:Nat}{tl:List Value}{s s':nG}(h:qS w mb wb tl s){c:Nat}(hx:s.pop c=some s'):
  Calls prog 137 #[.pointer (some ⟨mb,0,none⟩),.int .i64 c] w λe w'=>e=.returned (.tuple #[])/\qS w' mb wb tl s'/\Fr (M2 mb wb) w w':=by
 unfold nG.pop at hx;split at hx
 .next hg=>obtain rfl:=J8 hx;exact Go.Proofs.YtgahgkddaljmkaaGreatDoor.Yf h c hg
 .cases hx
abbrev Kj:=@nG.Yf
theorem nG.UG{w:World}{mb wb:Nat}{tl:List Value}{s s':nG}(h:qS w mb wb tl s){hd:Int}{xs:List Int}{sp:Option Addr}{cp:Nat}(hx:s.node hd xs=some s')(dX:0<xs.length->∃ad,sp=some ad/\∀(W:World),qS W mb wb tl { s with ws:=s.ws.set s.free hd }->Fr (M2 mb wb) w W->∀(j:Nat)x,xs[j]?=some x->W.cell? (ad.add j)=some (.int .i64 x)):
  Calls prog 74 #[.pointer (some ⟨mb,0,none⟩),.int .i64 hd,.slice sp xs.length cp] w λe w'=>e=.returned (.int .i64 s.free)/\qS w' mb wb tl s'/\Fr (M2 mb wb) w w':=by
 unfold nG.node at hx;split at hx
 .next hg=>obtain rfl:=J8 hx;exact Go.Proofs.YtgahgkddaljmkaaGreatDoor.UG h hd xs sp cp hg dX
 .cases hx
variable {tl:List Value}{s':nG}{hd:Int}
theorem nG.zvV(h:qS w mb wb tl s){v:Int}(hx:s.node hd [v]=some s'):
  Calls prog 74 #[.pointer (some ⟨mb,0,none⟩),.int .i64 hd,.slice (some ⟨w.heap.size,0,none⟩) 1 1] (w.alloc (Obj.cells #[.int .i64 v] 2)).drew λe w'=>e=.returned (.int .i64 s.free)/\qS w' mb wb tl s'/\Fr (M2 mb wb) w w':=by
 have f0:Fr (M2 mb wb) w (w.alloc (Obj.cells #[.int .i64 v] 2)).drew:=((eU _ _).alloc _).drew;have h0:=(h.below (Mi w (Obj.cells #[.int .i64 v] 2))).drew;have hn:oH (w.alloc (Obj.cells #[.int .i64 v] 2)).drew w.heap.size [.int .i64 v] 2:=(gH w [.int .i64 v] 2).drew;have hm:=h.blk.lt;have hw:=h.MX.lt;refine(nG.UG (sp:=some ⟨w.heap.size,0,none⟩) (cp:=1) h0 hx (λ_=>⟨_,rfl,λW _ fW j x hj=>?_⟩)).mono ?_
 .have hb:=gd hn fW (by unfold M2;omega)
  match j,hj with
  |0,hj=>simp only[Pk,IA]at hj;subst hj;rw[Pf];exact hb.cell 0
 .rintro e w'⟨rfl,q1,q2⟩;exact⟨rfl,q1,f0.trans q2⟩
def nG.words (s:nG) (o c:Nat):List Int:=(s.ws.drop o).take c
variable {o c:Nat}
theorem nG.zcR(h:o+c<=s.ws.length):(s.words o c).length=c:=by unfold nG.words;rw[NQ,Oo];omega
abbrev JZ:=@nG.zcR
theorem nG.zd7{j:Nat}{x:Int}(h:(s.words o c)[j]?=some x):j<c/\s.ws[o+j]?=some x:=by
 unfold nG.words at h;rw[Qf]at h;split at h
 .next hj=>rw[Qe]at h;exact⟨hj,h⟩
 .cases h
abbrev Mc:=@nG.zd7
variable {cp:Nat}
theorem nG.zqI(h:qS w mb wb tl s){o':Nat}(hx:s.node hd (s.words o c)=some s')(hf:s.free<o\/o+c<=s.free)(ho:o+c<=s.ws.length)(uO:0<c->o'=o):
  Calls prog 74 #[.pointer (some ⟨mb,0,none⟩),.int .i64 hd,.slice (some ⟨wb,o',none⟩) c cp] w λe w'=>e=.returned (.int .i64 s.free)/\qS w' mb wb tl s'/\Fr (M2 mb wb) w w':=by
 have:=nG.UG (sp:=some ⟨wb,o',none⟩) (cp:=cp) h hx (λh0=>⟨_,rfl,λW hW _ j x hj=>by rw[JZ ho]at h0;obtain⟨sy,lh⟩:=Mc hj;rw[Pf,uO h0];refine hW.word ?_;simp only;rw[XJ (by omega)];exact lh⟩)
 rw[JZ ho]at this;exact this
def nG.UH (s:nG) (xs:List Int):Option nG:=if xs.length<=s.top/\s.top<=s.ws.length then some { s with top:=s.top-xs.length,ws:=Go.splice s.ws (s.top-xs.length) xs }else none
theorem nG.zel(h:qS w mb wb tl s){xs:List Int}{o':Nat}(hx:s.UH xs=some s')(tG:xs=s.words o c)(ho:o+c<=s.ws.length)(uO:0<c->o'=o):
  Calls prog 201 #[.pointer (some ⟨mb,0,none⟩),.slice (some ⟨wb,o',none⟩) c cp] w λe w'=>e=.returned (.tuple #[])/\qS w' mb wb tl s'/\Fr (M2 mb wb) w w':=by
 subst tG;unfold nG.UH at hx;split at hx
 .next hg=>
  obtain rfl:=J8 hx;have:=zpK h (s.words o c) (some ⟨wb,o',none⟩) cp (λh0=>⟨_,rfl,λW hW _ j x hj=>by rw[JZ ho]at h0;obtain⟨sy,lh⟩:=Mc hj;rw[Pf,uO h0];exact hW.word lh⟩) hg.1 hg.2
  simp only[JZ ho]at this|-;exact this
 .cases hx
def Nj (r:Option (Except Nat l0)) (f:l0->Option (Except Nat l0)):Option (Except Nat l0):=
 match r with
 |none=>none
 |some (.error k)=>some (.error k)
 |some (.ok m)=>f m
def l0.put (m:l0) (s:Option nG):Option (Except Nat l0):=s.map λq=>.ok { m with s:=q }
def l0.N5 (m:l0) (v:Int):Option (Except Nat l0):=Nj (m.M8 3) λm1=>m1.put ((m1.s.node 0 [v]).bind λs=>s.push m1.s.free)
theorem Zt:Hd 0 0 0=0:=rfl
variable {r:Except Nat l0}
theorem zb1(h:qW w mb wb fv m){v:Int}(hc:m.N5 v=some r):
  Calls prog 132 #[.pointer (some ⟨mb,0,none⟩),.int .i64 v] w λe w'=>Ends w mb wb fv r e w':=by
 unfold l0.N5 Nj at hc;split at hc
 .cases hc
 .next k hn=>obtain rfl:=J8 hc;have CN:=eu (Pd h hn);clear h hn hc;go_enter func132,ntmps132;go_wp2_with fail;refine CN.o.mono ?_;rintro e w1⟨f1,rfl,h1⟩;exact⟨rfl,f1,rfl,h1⟩
 .next m1 hn=>
  have CN:=eu (Pd h hn);simp only[l0.put,M9,JM]at hc;obtain⟨s3,⟨s2,bg,aM⟩,rfl⟩:=hc;have HN:=eu bg;have pH:=eu aM;clear h hn bg aM;go_enter func132,ntmps132;go_wp2_with fail;refine CN.o.mono ?_;rintro e w1⟨f1,rfl,h1⟩;have F1:=eu f1;have H1:=eu h1;clear f1 h1 CN;go_wp2_with fail
  go_region_held3 (λ_=>True) (trivial) (first
   |(go_at_call 75;refine(Rg 0 0 0 _ (by omega) (by omega)).mono ?_;rintro e w2⟨rfl,rfl⟩;rw[Zt])
   |(go_at_call 74;refine(nG.zvV H1.o.sat HN.o).mono ?_;rintro e w3⟨rfl,h3,f3⟩;have H3:=eu h3;have F3:=eu f3;clear h3 f3)
   |(go_at_call 76;refine(I9 H3.o pH.o).mono ?_;rintro e w4⟨rfl,h4,f4⟩;have H4:=eu h4;have F4:=eu (F3.o.trans f4);clear h4 f4))
  all_goals
   go_wp2
   first|go_end0|refine Ju rfl rfl ?_
   exact⟨F1.o.trans (F4.o.MD fv),rfl,H1.o.O6 H4.o F4.o⟩
def l0.build (m:l0) (hd:Int) (c:Nat):Option (Except Nat l0):=Nj (m.M8 (c+2)) λm1=>if m1.s.free<m1.s.top/\m1.s.top+c<=m1.s.ws.length then m1.put ((m1.s.node hd (m1.s.words m1.s.top c)).bind λs=>(s.pop c).bind λq=>q.push m1.s.free)else none
theorem YA(h:qW w mb wb fv m)(jl:c<=1000000)(hc:m.build hd c=some r):
  Calls prog 133 #[.pointer (some ⟨mb,0,none⟩),.int .i64 hd,.int .i64 c] w λe w'=>Ends w mb wb fv r e w':=by
 unfold l0.build Nj at hc;split at hc
 .cases hc
 .next k hn=>obtain rfl:=J8 hc;have CN:=eu (Pd h hn);simp only[OC,SQ]at CN;clear h hn hc;go_enter func133,ntmps133;go_wp2_with fail;refine CN.o.mono ?_;rintro e w1⟨f1,rfl,h1⟩;exact⟨rfl,f1,rfl,h1⟩
 .next m1 hn=>
  have CN:=eu (Pd h hn);simp only[OC,SQ]at CN;dsimp only at hc;split at hc
  .next hg=>
   simp only[l0.put,M9,JM]at hc;obtain⟨s4,⟨s2,bg,s3,dW,aM⟩,rfl⟩:=hc;have HN:=eu bg;have Ct:=eu dW;have pH:=eu aM;have HG:=eu hg;clear h hn bg dW aM hg;go_enter func133,ntmps133;go_wp2_with fail;refine CN.o.mono ?_;rintro e w1⟨f1,rfl,h1⟩;have F1:=eu f1;have H1:=eu h1;clear f1 h1 CN;go_wp2_with fail
   go_region_held3 (λ_=>True) (trivial) (first
    |(go_at_call 136;refine(Xf (H1.o.sat.drew) c HG.o.2).mono ?_;rintro e w2⟨rfl,k2,aB⟩;have H2:Hid (qS w2 mb wb (MU m1.o fv) m1.s):=eu (by rw[aB];exact H1.o.sat.drew.drewN k2);have F2:Hid (Fr (M2 mb wb) w1 w2):=eu (by rw[aB];exact(eU _ _).drew.drewN k2);clear aB)
    |(go_at_call 74;refine(nG.zqI H2.o HN.o (.inl HG.o.1) HG.o.2 (λh0=>QQ (by have:=HG.o.2;omega))).mono ?_;rintro e w3⟨rfl,h3,f3⟩;have H3:=eu h3;have F3:=eu (F2.o.trans f3);clear h3 f3))
   all_goals
    go_wp2_with fail;refine(Kj H3.o Ct.o).mono ?_;rintro e w4⟨rfl,h4,f4⟩;have H4:=eu h4;have F4:=eu (F3.o.trans f4);clear h4 f4;go_wp2_with fail;refine(I9 H4.o pH.o).mono ?_;rintro e w5⟨rfl,h5,f5⟩;have H5:=eu h5;have F5:=eu (F4.o.trans f5);clear h5 f5;go_wp2
    first|go_end0|refine Ju rfl rfl ?_
    exact⟨F1.o.trans (F5.o.MD fv),rfl,H1.o.O6 H5.o F5.o⟩
  .cases hc
def l0.Uv (m:l0) (b:Bool):Option (Except Nat l0):=m.build (Hd 1 (if b then 2 else 1) 0) 0
theorem zkG(h:qW w mb wb fv m)(hc:m.build (Hd 1 2 0) 0=some r):
  Calls prog 208 #[.pointer (some ⟨mb,0,none⟩),.bool true] w λe w'=>Ends w mb wb fv r e w':=by
 have CB:=eu (YA h (by omega) hc);have CH:=eu (λW:World=>Rg 1 2 0 W (by omega) (by omega));generalize Hd 1 2 0=z at CB CH;clear h hc;go_enter func208,ntmps208;go_wp2_with fail;refine(CH.o _).mono ?_;rintro e w2⟨rfl,rfl⟩;go_wp2_with fail;refine CB.o.mono ?_;rintro e w3 h3;cases r with
 |error k=>obtain⟨f3,rfl,h3⟩:=h3;exact⟨rfl,f3,rfl,h3⟩
 |ok m3=>
  obtain⟨f3,rfl,h3⟩:=h3;have H3:=eu h3;clear h3;go_wp2
  first|go_end0|refine Ju rfl rfl ?_
  exact⟨f3,rfl,H3.o⟩
theorem zjE(h:qW w mb wb fv m)(hc:m.build (Hd 1 1 0) 0=some r):
  Calls prog 208 #[.pointer (some ⟨mb,0,none⟩),.bool false] w λe w'=>Ends w mb wb fv r e w':=by
 have CB:=eu (YA h (by omega) hc);have CH:=eu (λW:World=>Rg 1 1 0 W (by omega) (by omega));generalize Hd 1 1 0=z at CB CH;clear h hc;go_enter func208,ntmps208;go_wp2_with fail;refine(CH.o _).mono ?_;rintro e w2⟨rfl,rfl⟩;go_wp2_with fail;refine CB.o.mono ?_;rintro e w3 h3;cases r with
 |error k=>obtain⟨f3,rfl,h3⟩:=h3;exact⟨rfl,f3,rfl,h3⟩
 |ok m3=>
  obtain⟨f3,rfl,h3⟩:=h3;have H3:=eu h3;clear h3;go_wp2
  first|go_end0|refine Ju rfl rfl ?_
  exact⟨f3,rfl,H3.o⟩
theorem zg9(h:qW w mb wb fv m){b:Bool}(hc:m.Uv b=some r):
  Calls prog 208 #[.pointer (some ⟨mb,0,none⟩),.bool b] w λe w'=>Ends w mb wb fv r e w':=by
 cases b
 .exact zjE h hc
 .exact zkG h hc
def l0.calc (m:l0) (sg:ByteArray) (l r:Int):Option (Except Nat l0):=
 if sg=⟨#[43]⟩then m.N5 (IntKind.i64.wrap (l+r))else
 if sg=⟨#[45]⟩then m.N5 (IntKind.i64.wrap (l-r))else
 if sg=⟨#[42]⟩then m.N5 (IntKind.i64.wrap (l*r))else
 if sg=⟨#[47]⟩then(if r=0 then some (.error 3)else m.N5 (IntKind.i64.wrap (Int.tdiv l r)))else
 if sg=⟨#[60]⟩then m.Uv (decide (l<r))else
 if sg=⟨#[61,61]⟩then m.Uv (decide (l=r))else none
def l0.compute (m:l0) (sg:ByteArray):Option (Except Nat l0):=
 match m.numberAt 0 with
 |none=>none
 |some (.error k)=>some (.error k)
 |some (.ok r)=>
  match m.numberAt 1 with
  |none=>none
  |some (.error k)=>some (.error k)
  |some (.ok l)=>
   match m.s.pop 2 with
   |none=>none
   |some s1=>l0.calc { m with s:=s1 } sg l r
variable {l:Int}{sg:ByteArray}{res:Except Nat l0}
theorem zFS{r:Int}(hc:m.calc sg l r=some res):(sg=⟨#[47]⟩/\r=0/\res=.error 3)\/(sg=⟨#[43]⟩/\m.N5 (IntKind.i64.wrap (l+r))=some res)\/(sg=⟨#[45]⟩/\m.N5 (IntKind.i64.wrap (l-r))=some res)\/(sg=⟨#[42]⟩/\m.N5 (IntKind.i64.wrap (l*r))=some res)\/(sg=⟨#[47]⟩/\r≠0/\m.N5 (IntKind.i64.wrap (Int.tdiv l r))=some res)\/(sg=⟨#[60]⟩/\m.Uv (decide (l<r))=some res)\/(sg=⟨#[61,61]⟩/\m.Uv (decide (l=r))=some res):=by
 unfold l0.calc at hc;split at hc
 .next hs=>exact .inr (.inl ⟨hs,hc⟩)
 .split at hc
  .next hs=>exact .inr (.inr (.inl ⟨hs,hc⟩))
  .split at hc
   .next hs=>exact .inr (.inr (.inr (.inl ⟨hs,hc⟩)))
   .split at hc
    .next hs=>
     split at hc
     .next h0=>exact .inl ⟨hs,h0,(J8 hc).symm⟩
     .next h0=>exact .inr (.inr (.inr (.inr (.inl ⟨hs,h0,hc⟩))))
    .split at hc
     .next hs=>exact .inr (.inr (.inr (.inr (.inr (.inl ⟨hs,hc⟩)))))
     .split at hc
      .next hs=>exact .inr (.inr (.inr (.inr (.inr (.inr ⟨hs,hc⟩)))))
      .cases hc
theorem zFU{r:Int}{s1:nG}(h:qW w mb wb fv m)(hr:m.numberAt 0=some (.ok r))(hl:m.numberAt 1=some (.ok l))(hp:m.s.pop 2=some s1)(hc:l0.calc ⟨s1,m.o,m.fns⟩ sg l r=some res):
  Calls prog 141 #[.pointer (some ⟨mb,0,none⟩),.string sg] w λe w'=>Ends w mb wb fv res e w':=by
 have HR:=eu hr;have HL:=eu hl;have HP:=eu hp;have HH:=eu h;have HC:=eu (zFS hc);clear h hr hl hp hc;go_enter func141,ntmps141;go_wp2_with fail;refine(Vf (d:=0) HH.o HR.o).mono ?_;rintro e w1⟨⟨n1,aD⟩,rfl⟩;have H1:Hid (qW w1 mb wb fv m):=eu (by rw[aD];exact HH.o.drewN n1);have F1:Hid (Fr (MB mb wb fv) w w1):=eu (by rw[aD];exact(eU _ _).drewN n1);clear aD;go_wp2_with fail;refine(Vf (d:=1) H1.o HL.o).mono ?_;rintro e w2⟨⟨n2,aB⟩,rfl⟩;have H2:Hid (qW w2 mb wb fv m):=eu (by rw[aB];exact H1.o.drewN n2);have F2:Hid (Fr (MB mb wb fv) w w2):=eu (by rw[aB];exact F1.o.drewN n2);clear aB;go_wp2_with fail;refine(Kj (c:=2) H2.o.sat HP.o).mono ?_;rintro e w3⟨rfl,h3,f3⟩;have H3:Hid (qW w3 mb wb fv { m with s:=s1 }):=eu (H2.o.O6 h3 f3);have F3:Hid (Fr (MB mb wb fv) w w3):=eu (F2.o.trans (f3.MD fv));have hc:=HC.o;clear h3 f3 HC;obtain⟨rfl,rfl,rfl⟩|⟨rfl,hc⟩|⟨rfl,hc⟩|⟨rfl,hc⟩|⟨rfl,fQ,hc⟩|⟨rfl,hc⟩|⟨rfl,hc⟩:=hc
 .go_wp2_with fail;refine(Tm 3 _).mono ?_;rintro e w4⟨rfl,rfl⟩;exact⟨rfl,F3.o,rfl,_,H3.o⟩
 all_goals
  obtain⟨z,hz⟩:∃z,IntKind.i64.wrap (l+r)=z:=⟨_,rfl⟩;obtain⟨y,hy⟩:∃z,IntKind.i64.wrap (l-r)=z:=⟨_,rfl⟩;obtain⟨x,hx⟩:∃z,IntKind.i64.wrap (l*r)=z:=⟨_,rfl⟩;obtain⟨v,hv⟩:∃z,IntKind.i64.wrap (Int.tdiv l r)=z:=⟨_,rfl⟩
  try have dd:(r == 0)=false:=by rw[kJ];exact fQ
  first|rw[hz]at hc|rw[hy]at hc|rw[hx]at hc|rw[hv]at hc|skip
  have HC:=eu hc;clear hc;go_wp2_with fail
  first|refine(zg9 H3.o HC.o).mono ?_|refine(zb1 H3.o HC.o).mono ?_
  rintro e w4 h4;cases res with
  |error k=>obtain⟨f4,rfl,h4⟩:=h4;exact⟨rfl,F3.o.trans f4,rfl,h4⟩
  |ok m4=>
   obtain⟨f4,rfl,h4⟩:=h4;have H4:=eu h4;clear h4;go_wp2
   first|go_end0|refine Ju rfl rfl ?_
   exact⟨F3.o.trans f4,rfl,H4.o⟩
theorem znF(h:qW w mb wb fv m)(hr:m.numberAt 0=some (.error k)):
  Calls prog 141 #[.pointer (some ⟨mb,0,none⟩),.string sg] w λe w'=>Ends w mb wb fv (.error k) e w':=by
 have HR:=eu hr;have HH:=eu h;clear h hr;go_enter func141,ntmps141;go_wp2_with fail;refine(Vf (d:=0) HH.o HR.o).mono ?_;rintro e w1⟨⟨n1,aD⟩,rfl⟩;have H1:Hid (qW w1 mb wb fv m):=eu (by rw[aD];exact HH.o.drewN n1);have F1:Hid (Fr (MB mb wb fv) w w1):=eu (by rw[aD];exact(eU _ _).drewN n1);exact⟨rfl,F1.o,rfl,_,H1.o⟩
theorem znG{r:Int}(h:qW w mb wb fv m)(hr:m.numberAt 0=some (.ok r))(hl:m.numberAt 1=some (.error k)):
  Calls prog 141 #[.pointer (some ⟨mb,0,none⟩),.string sg] w λe w'=>Ends w mb wb fv (.error k) e w':=by
 have HR:=eu hr;have HL:=eu hl;have HH:=eu h;clear h hr hl;go_enter func141,ntmps141;go_wp2_with fail;refine(Vf (d:=0) HH.o HR.o).mono ?_;rintro e w1⟨⟨n1,aD⟩,rfl⟩;have H1:Hid (qW w1 mb wb fv m):=eu (by rw[aD];exact HH.o.drewN n1);have F1:Hid (Fr (MB mb wb fv) w w1):=eu (by rw[aD];exact(eU _ _).drewN n1);clear aD;go_wp2_with fail;refine(Vf (d:=1) H1.o HL.o).mono ?_;rintro e w2⟨⟨n2,aB⟩,rfl⟩;have H2:Hid (qW w2 mb wb fv m):=eu (by rw[aB];exact H1.o.drewN n2);have F2:Hid (Fr (MB mb wb fv) w w2):=eu (by rw[aB];exact F1.o.drewN n2);exact⟨rfl,F2.o,rfl,_,H2.o⟩
theorem zpl(h:qW w mb wb fv m)(hc:m.compute sg=some res):
  Calls prog 141 #[.pointer (some ⟨mb,0,none⟩),.string sg] w λe w'=>Ends w mb wb fv res e w':=by
 unfold l0.compute at hc;split at hc
 .cases hc
 .next k hr=>obtain rfl:=J8 hc;exact znF h hr
 .next r hr=>
  split at hc
  .cases hc
  .next k hl=>obtain rfl:=J8 hc;exact znG h hr hl
  .next l hl=>
   split at hc
   .cases hc
   .next s1 hp=>exact zFU h hr hl hp hc
def nG.update (s:nG):Option nG:=
 match s.ws[s.top]? with
 |none=>none
 |some v=>
  match s.ws[s.top+2]? with
  |none=>none
  |some c=>if 0<=v/\v<=1000000/\0<=c/\c<s.ws.length then
    some { s with ws:=(s.ws.set c.toNat (Hd 4 v.toNat 0)).set (s.top+2) v,top:=s.top+2 }
   else none
theorem zsh(h:qS w mb wb tl s)(hu:s.update=some s'):
  Calls prog 203 #[.pointer (some ⟨mb,0,none⟩)] w λe w'=>e=.returned (.tuple #[])/\qS w' mb wb tl s'/\Fr (M2 mb wb) w w':=by
 obtain⟨ws,hf,lo,fr,t⟩:=s;unfold nG.update at hu;simp only at hu;split at hu
 .cases hu
 .next v hv=>
  split at hu
  .cases hu
  .next c hc=>
   split at hu
   .next hg=>
    obtain rfl:=J8 hu;obtain⟨v,rfl⟩:∃a:Nat,v=a:=⟨v.toNat,by omega⟩;obtain⟨c,rfl⟩:∃a:Nat,c=a:=⟨c.toNat,by omega⟩;simp only[MO];have hlen:ws.length<=1000000:=h.len;have cu:t+2<ws.length:=(Dq.1 hc).1;have aN:c<ws.length:=by omega
    obtain⟨u,eN⟩:∃u,t+2=u:=⟨_,rfl⟩;have yG:=eu (P6 h 0 _ hv);have HC:=eu hc;have HH:=eu h;have CH:=eu (λW:World=>Rg 4 v 0 W (by omega) (by omega));obtain⟨z,hz⟩:∃z,Hd 4 v 0=z:=⟨_,rfl⟩;rw[hz]at CH|-;have bT:(c:Int)<(ws.length:Int):=by omega
    have fP:=QU h.ne;clear h hu hv hc hg hz;go_enter func203,ntmps203;go_wp2_with fail;refine yG.o.mono ?_;rintro e w1⟨rfl,k1,aD⟩;have H1:Hid (qS w1 mb wb tl ⟨ws,hf,lo,fr,t⟩):=eu (by rw[aD];exact HH.o.drewN k1);have F1:Hid (Fr (M2 mb wb) w w1):=eu (by rw[aD];exact(eU _ _).drewN k1);clear aD yG;have c0:=H1.o.c0;simp only at c0;go_wp2_with fail
    go_region_held3 (λW=>W.cell? ⟨mb,0,none⟩=some (.slice (some ⟨wb,0,none⟩) ws.length ws.length)) (first|go_keep|assumption) (first
     |(go_at_call 75;refine(CH.o _).mono ?_;rintro e w3⟨rfl,bL⟩;subst w3)
     |(go_at_call 82;refine(P6 H1.o.drew 2 _ HC.o).mono ?_;rintro e w2⟨rfl,k2,aB⟩;have H2:Hid (qS w2 mb wb tl ⟨ws,hf,lo,fr,t⟩):=eu (by rw[aB];exact H1.o.drew.drewN k2);have F2:Hid (Fr (M2 mb wb) w w2):=eu (by rw[aB];exact F1.o.drew.drewN k2);have d0:=H2.o.c0;have dc:=H2.o.Rl (i:=c) aN;have df:=H2.o.MX.frozen c;simp only at d0 dc;clear aB))
    all_goals
     have H3:=eu (H2.o.QC c z);have F3:=eu (F2.o.set ⟨wb,c,none⟩ (.int .i64 z) (.inl (.inr rfl)));generalize w2.setCell ⟨wb,c,none⟩ (.int .i64 z)=w3 at H3 F3;clear c0 d0 dc df;go_wp2_with fail;refine(Go.Proofs.YtgahgkddaljmkaaGreatDoor.Yf H3.o 2 (by simp only;omega)).mono ?_;rintro e w4⟨rfl,h4,f4⟩;have H4:=eu h4;have F4:=eu (F3.o.trans f4);have c0:=h4.c0;have c4:=h4.c4;simp only[eN]at c4;have ct:=h4.Rl (i:=u) (by simp only[MH];omega);have cf:=h4.MX.frozen u;simp only[MH]at c0;clear h4 f4;have p9:(u:Int)<(ws.length:Int):=by omega
     have AP:(0:Int)<=(u:Int):=by omega
     go_wp2_with fail
     go_region_held3 (λW=>W.cell? ⟨mb,0,none⟩=some (.slice (some ⟨wb,0,none⟩) ws.length ws.length)/\W.cell? ⟨mb,4,none⟩=some (.int .i64 u)) (first|go_keep|(refine⟨?_,?_⟩<;>assumption)) (fail)
     all_goals
      go_wp2
      first|go_end0|refine Ju rfl rfl ?_
      refine⟨rfl,?_,F4.o.drew.set _ _ (.inl (.inr rfl))⟩;have:=H4.o.drew.QC u v;simp only[eN]at this|-;exact this
   .cases hu
def O4 (w:World) (mb wb:Nat) (fv pv:Value) (sl:List Nat):Prop:=
 ∃pb cap,pv=.slice (some ⟨pb,0,none⟩) sl.length cap/\pb<w.heap.size/\¬MB mb wb fv pb/\∀(i n:Nat),sl[i]?=some n->n<=1000000/\w.cell? ⟨pb,i*2,none⟩=some (.int .i64 n)
variable {sl:List Nat}
theorem O4.fr{w':World}{pv:Value}(h:O4 w mb wb fv pv sl)(f:Fr (MB mb wb fv) w w'):O4 w' mb wb fv pv sl:=by obtain⟨pb,cap,h1,h2,h3,h4⟩:=h;refine⟨pb,cap,h1,Kl h2 f.size,h3,λi n hi=>⟨(h4 i n hi).1,?_⟩⟩;rw[kI (w:=w) (f.block pb h2 h3)];exact(h4 i n hi).2
def nG.Qo (s:nG) (sl:List Nat) (a:Nat):Option Int:=
 match s.ws[a]? with
 |none=>none
 |some y=>if y<0\/9223372036854775808<=y then none else
  if y%16=2 then
   match sl[(y/65536).toNat]? with
   |none=>none
   |some n=>some ((n:Int)-y/16%4096)
  else some (-1)
variable {a:Nat}
theorem zjp(h:qW w mb wb fv m)(hB:O4 w mb wb fv m.o.pb sl){r:Int}(hr:m.s.Qo sl a=some r):
  Calls prog 127 #[.pointer (some ⟨mb,0,none⟩),.int .i64 a] w λe w'=>e=.returned (.int .i64 r)/\∃n,w'=w.drewN n:=by
 unfold nG.Qo at hr;split at hr
 .cases hr
 .next y hy=>
  split at hr
  .cases hr
  .next aT=>
   have c0:=h.sat.c0;have cy:=h.sat.word hy;have aU:=(Dq.1 hy).1;have eo:(a:Int)<(m.s.ws.length:Int):=by omega
   have CK:=eu (λW:World=>QM y W (by omega));by_cases hk:y%16=2
   .rw[nB hk]at hr;split at hr
    .cases hr
    .next n hn=>
     obtain rfl:=J8 hr;obtain⟨pb,cap,eD,_,_,dA⟩:=hB;have c5:=h.sat.c5;rw[eD]at c5;obtain⟨cR,cn⟩:=dA _ _ hn;have CW:=eu (λW:World=>RL y W (by omega) (by omega));have CC:=eu (λW:World=>Sq y W (by omega) (by omega));have cV:=(Dq.1 hn).1;obtain⟨b,hb⟩:∃b:Nat,y/65536=b:=⟨(y/65536).toNat,by omega⟩;obtain⟨c,hc⟩:∃c:Nat,y/16%4096=c:=⟨(y/16%4096).toNat,by omega⟩;have jj:(c:Int)<4096:=by omega
     rw[hb]at CW cV cn;rw[hc]at CC|-;rw[hk]at CK;simp only[MO]at cn cV;have Eh:(b:Int)<(sl.length:Int):=by omega
     clear h hr hy aT hk eD dA hn hb hc aU;go_enter func127,ntmps127;go_wp2_with fail;refine(CK.o _).mono ?_;rintro e w1⟨rfl,aD⟩;subst w1;go_wp2_with fail
     go_quiet ((first|(go_at_call 84;exact qQ (CW.o _))|(go_at_call 85;exact qQ (CC.o _))))
     go_wp2;go_ret;exact⟨rfl,_,rfl⟩
   .rw[pL hk]at hr;obtain rfl:=J8 hr;have lj:(y%16 == 2)=false:=by rw[kJ];exact hk
    generalize y%16=z at CK hk lj;clear h hr hy aT hk hB aU;go_enter func127,ntmps127;go_wp2_with fail;refine(CK.o _).mono ?_;rintro e w1⟨rfl,aD⟩;subst w1;go_wp2;go_ret;exact⟨rfl,0,rfl⟩
theorem zxK:∀{k:Nat}{s s':nG}{a:Nat},s.scan a k=some s'->s'.ws.length=s.ws.length:=by
 intro k
 induction k with
 |zero=>intro s s' a h;cases h
 |succ k ih=>
  intro s s' a h;rw[nG.scan]at h;split at h
  .split at h
   .cases h
   .split at h
    .cases h
    .split at h
     .cases h
     .next s1 hb=>
      split at h
      .cases h
      .split at h
       .cases h
       .rw[ih h];exact(Yz hb).1
  .obtain rfl:=J8 h;rfl
theorem zli{fns cI:List Int}(hc:s.collect fns=some (cI,s')):s'.ws.length=s.ws.length:=by
 unfold nG.collect at hc;split at hc
 .next hg=>
  have ht:s.OU.ws.length=s.ws.length:=by unfold nG.OU;simp only;rw[PI];rw[NQ,Oo];omega
  split at hc
  .cases hc
  .next s1 aA=>
   split at hc
   .cases hc
   .next gj s2 aw=>
    split at hc
    .cases hc
    .next s3 bD=>simp only[IA,O2]at hc;rw[<-hc.2,zxK bD,(WU aw).1,(Yz aA).1,ht]
 .cases hc
variable {m':l0}
theorem zmx(h:m.M8 c=some (.ok m')):m'.s.ws.length=m.s.ws.length:=by
 unfold l0.M8 at h;split at h
 .simp only[IA,T0]at h;rw[h]
 .split at h
  .cases h
  .next gj s2 jW=>
   split at h
   .simp only[IA,reduceCtorEq]at h
   .simp only[IA,T0]at h;rw[<-h];exact zli jW
def nG.head (s:nG) (a:Nat):Option Int:=
 match s.ws[a]? with
 |none=>none
 |some y=>if y<0\/9223372036854775808<=y then none else some y
variable {y:Int}
theorem nG.zaU(h:s.head a=some y):s.ws[a]?=some y/\0<=y/\y<9223372036854775808/\a<s.ws.length:=by
 unfold nG.head at h;split at h
 .cases h
 .next x hx=>
  split at h
  .cases h
  .next hg=>obtain rfl:=J8 h;exact⟨hx,by omega,by omega,(Dq.1 hx).1⟩
abbrev xW:=@nG.zaU
def nG.nodeAt (s:nG) (d:Nat):Option (Nat × Int):=
 match s.ws[s.top+d]? with
 |none=>none
 |some x=>if x<0 then none else(s.head x.toNat).map λy=>(x.toNat,y)
theorem nG.zaP{d:Nat}(h:s.nodeAt d=some (a,y)):s.ws[s.top+d]?=some (a:Int)/\s.head a=some y:=by
 unfold nG.nodeAt at h;split at h
 .cases h
 .next x hx=>
  split at h
  .cases h
  .next hg=>simp only[M9,O2]at h;obtain⟨z,h1,h2,rfl⟩:=h;subst h2;refine⟨?_,h1⟩;rw[hx,Int.toNat_of_nonneg (by omega)]
abbrev Iu:=@nG.zaP
def MA (y:Int):Nat:=(y/16%4096).toNat
theorem YF(_h:0<=y):y/16%4096=(MA y:Int):=by unfold MA;omega
theorem Vo(y:Int):MA y<4096:=by unfold MA;omega
def l0.begun (m:l0):Option l0:=
 match m.s.nodeAt 0 with
 |none=>none
 |some (a,_)=>
  match m.s.push (Mk 0 0)with
  |none=>none
  |some s2=>
   match s2.head a with
   |none=>none
   |some y2=>if s2.ws.length<a+1+MA y2 then none else
    match s2.UH (s2.words (a+1) (MA y2))with
    |none=>none
    |some s3=>
     match s3.head a with
     |none=>none
     |some y3=>some { m with s:={ s3 with ws:=s3.ws.set a (Hd 3 0 0) },o:={ m.o with next:=y3/65536 } }
def l0.Qn (m:l0):Option (Except Nat l0):=
 match m.s.nodeAt 0 with
 |none=>none
 |some (_,y)=>Nj (m.M8 (1+MA y)) λm1=>m1.begun.map .ok
theorem tk{P:Program}{ops:Array Oper}{Q:Exit->Act->World->Prop}{md:Region.Mode}{S:World->Prop}(i:Nat){oi:Oper}{v:Value}{fuel:Nat}{listed:Array Bool}{a:Act}(k:wpAnyH P md ops Q S fuel (listed.setIfInBounds i true) (a.put oi.dst v) w)(h0:ops[i]?=some oi:=by rfl)(hw:Region.wanted oi (yielded ops a.tmps)=true:=by rfl)(hy:∀w:World,S w->Sem.run P (execOp a.eval oi) w=.ok (.value v) w:=by intro w h;(try dsimp only at h);(try go_split_ands);go_simp;try with_reducible rfl)(h1:Region.noSelect ops=true:=by kernel_rfl)(h2:Region.free md ops listed i=true:=by kernel_rfl)(h3:(Region.ready md ops listed).contains i=true:=by kernel_rfl)(hQ:∀(c:List PanicEntry)(a:Act)(w:World),Q (.panic c) (a.put oi.dst v) w->Q (.panic c) a w:=by exactλ_ _ _ h=>h)(hS:S w:=by assumption):wpAnyH P md ops Q S (fuel+1) listed a w:=
 wpAnyH_take h0 h1 h2 h3 hQ (.inl ⟨hw,hy⟩) hS k
theorem OD{P:Program}{ops:Array Oper}{Q:Exit->Act->World->Prop}{md:Region.Mode}{S:World->Prop}(i:Nat){o:Oper}{fuel:Nat}{listed:Array Bool}{a:Act}(h0:ops[i]?=some o)(k:∀K':Act->World->Prop,Shut (∀(a:Act)(w:World),S w->(S w->wpAnyH P md ops Q S fuel (listed.setIfInBounds i true) a w)->K' a w)->if Region.wanted o (yielded ops a.tmps)=true then Oper.wp P o a w K' Q else K' (a.put o.dst undef) w)(h:Region.ready md ops listed=[i]:=by kernel_rfl):wpAnyH P md ops Q S (fuel+1) listed a w:=
 wpAnyH_ready h (by simp) (.cons h0 k .nil)
theorem zns(h:qW w mb wb fv m)(hb:m.Qn=some r):
  Calls prog 128 #[.pointer (some ⟨mb,0,none⟩)] w λe w'=>Ends w mb wb fv r e w':=by
 unfold l0.Qn at hb;split at hb
 .cases hb
 rename_i a y ha;cases hn:m.M8 (1+MA y)with
 |none=>rw[hn]at hb;cases hb
 |some r0=>_
 rw[hn]at hb;obtain⟨hx,hh⟩:=Iu ha;obtain⟨hy,aT,bE,aU⟩:=xW hh;have c0:=h.sat.c0;have eo:(a:Int)<(m.s.ws.length:Int):=by omega
 have CC:=eu (λW:World=>Sq y W aT bE);rw[YF aT]at CC;have aN:=Vo y;have HH:=eu h;have CA:=eu (λ(W:World)(hW:qW W mb wb fv m)=>P6 (d:=0) hW.sat _ hx);have HY:=eu hy;have CN:=eu (λ(W:World)(hW:qW W mb wb fv m)=>Pd hW hn);have HN:=eu hn;have HB:=eu hb;have fP:=QU h.sat.ne;simp only[OC,SQ]at CN;have uS:IntKind.i64.wrap (1+(MA y:Int))=1+(MA y:Int):=P9 _ (by omega) (by omega);generalize MA y=c at *;clear h ha hx hy hh hn aT bE aU hb;go_enter func128,ntmps128;go_wp2_with fail;refine uu (S:=λW=>W.cell? ⟨mb,0,none⟩=some (.slice (some ⟨wb,0,none⟩) m.s.ws.length m.s.ws.length)) (by kernel_rfl) HH.o.sat.drew.c0 (λax=>?_);refine tk 0 ?_
 try simp only[Act.put,MV]
 refine tk 1 ?_
 try simp only[Act.put]
 refine tk 2 ?_
 try simp only[Act.put]
 refine tk 3 ?_
 try simp only[Act.put]
 refine tk 4 ?_
 try simp only[Act.put]
 refine tk 5 ?_
 try simp only[Act.put]
 refine tk 6 ?_
 try simp only[Act.put]
 refine tk 7 ?_
 try simp only[Act.put]
 refine tk 8 ?_
 try simp only[Act.put]
 refine OD 9 rfl λK hK=>?_
 go_simp
 refine(CA.o _ (HH.o.drewN 1)).mono ?_;rintro e w2⟨rfl,k2,aB⟩;have H2:Hid (qW w2 mb wb fv m):=eu (by rw[aB];exact(HH.o.drewN 1).drewN k2);have F2:Hid (Fr (MB mb wb fv) w w2):=eu (by rw[aB];exact(eU _ _).drew.drewN k2);have d0:=H2.o.sat.c0;have dy:=H2.o.sat.word HY.o;clear aB;refine hK.out _ _ d0 (λax=>?_);clear hK K
 try simp only[Act.put,MV,NK,Nh]
 refine tk 10 ?_
 try simp only[Act.put,MV]
 refine OD 11 rfl λK hK=>?_
 go_simp
 refine hK.out _ _ d0 (λax=>?_);clear hK K
 try simp only[Act.put,MV,NK,Nh]
 refine OD 12 rfl λK hK=>?_
 go_simp
 refine(CC.o _).mono ?_;rintro e w3⟨rfl,bL⟩;subst w3;refine hK.out _ _ d0 (λax=>?_);clear hK K
 try simp only[Act.put,MV,NK,Nh]
 refine tk 13 ?_
 try simp only[Act.put,MV]
 refine OD 14 rfl λK hK=>?_
 go_simp
 refine(CN.o _ H2.o).mono ?_;rintro e w4⟨f4,h4⟩;have hb:=HB.o;rcases r0 with k|m1
 .obtain⟨rfl,h4⟩:=h4;obtain rfl:=J8 hb;exact⟨rfl,F2.o.trans f4,rfl,h4⟩
 obtain⟨rfl,h4⟩:=h4;have H4:=eu h4;have F4:=eu (F2.o.trans f4);have g0:w4.cell? ⟨mb,0,none⟩=some (.slice (some ⟨wb,0,none⟩) m.s.ws.length m.s.ws.length):=by rw[h4.sat.c0,zmx HN.o]
 refine hK.out _ _ g0 (λax=>?_);clear hK K
 try simp only[Act.put,MV,NK,Nh]
 refine Jh (by kernel_rfl) ?_ _;clear c0 d0 dy g0 h4 f4;simp only[Nj,M9]at hb;obtain⟨m2,h2,rfl⟩:=hb;unfold l0.begun at h2;split at h2
 .cases h2
 rename_i a1 y1 gm;split at h2
 .cases h2
 rename_i s2 AE;split at h2
 .cases h2
 rename_i y2 kZ;split at h2
 .cases h2
 rename_i aJ;split at h2
 .cases h2
 rename_i s3 js;split at h2
 .cases h2
 rename_i y3 ld;obtain rfl:=J8 h2;obtain⟨ee,_⟩:=Iu gm;obtain⟨lL,iS,iT,ji⟩:=xW kZ;obtain⟨oi,iU,iV,kN⟩:=xW ld;have eR:=eu ee;have je:=eu AE;have gE:=eu (kK lL (kK iS (kK iT (show a1+1+MA y2<=s2.ws.length by omega))));have oB:=eu js;have pO:=eu oi;have CW:=eu (λW:World=>RL y3 W iU iV);have rO:(a1:Int)<(s3.ws.length:Int):=by omega
 have CH:=eu (λW:World=>Rg 3 0 0 W (by omega) (by omega));obtain⟨z,hz⟩:∃z,Hd 3 0 0=z:=⟨_,rfl⟩;obtain⟨nx,gx⟩:∃nx,y3/65536=nx:=⟨_,rfl⟩;rw[hz]at CH;rw[gx]at CW;have HZ:=eu hz;have HX:=eu gx;clear hz gx h2 gm ee kZ lL iS iT ji aJ AE js ld oi iU iV kN;go_wp2_with fail;refine(P6 (d:=0) H4.o.sat _ eR.o).mono ?_;rintro e w5⟨rfl,k5,dK⟩;have H5:Hid (qW w5 mb wb fv m1):=eu (by rw[dK];exact H4.o.drewN k5);have F5:Hid (Fr (MB mb wb fv) w w5):=eu (by rw[dK];exact F4.o.drewN k5);clear dK;go_wp2_with fail
 go_region_held3 (λ_=>True) (trivial) (first
  |(go_at_call 138;refine(YP 0 0 _ (by omega)).mono ?_;rintro e w6⟨rfl,oe⟩;subst w6)
  |(go_at_call 76;refine(I9 H5.o.sat.drew je.o).mono ?_;rintro e w7⟨rfl,h7,f7⟩;have H7:=eu h7;have F7:Hid (Fr (M2 mb wb) w5 w7):=eu ((eU _ _).drew.trans f7);clear h7 f7))
 all_goals
  go_wp2_with fail
  go_region_held3 (λ_=>True) (trivial) (first
   |(go_at_call 135;refine(Vg H7.o.drew a1 y2 gE.o.1 gE.o.2.1 gE.o.2.2.1 gE.o.2.2.2).mono ?_;rintro e w8⟨rfl,k8,lJ⟩;have H8:Hid (qS w8 mb wb (MU m1.o fv) s2):=eu (by rw[lJ];exact H7.o.drew.drewN k8);have F8:Hid (Fr (M2 mb wb) w5 w8):=eu (by rw[lJ];exact F7.o.drew.drewN k8);clear lJ)
   |(go_at_call 201;refine(nG.zel H8.o oB.o rfl gE.o.2.2.2 (λh0=>QQ (by have:=gE.o.2.2.2;unfold MA at h0 this;omega))).mono ?_;rintro e w9⟨rfl,h9,f9⟩;have H9:=eu h9;have F9:=eu (F8.o.trans f9);clear h9 f9))
  all_goals
   have e0:=H9.o.c0;have ey:=H9.o.word pO.o;have wG:=H9.o.Qy;have ef:=H9.o.blk.frozen 10;go_wp2_with fail;refine(CW.o _).mono ?_;rintro e pB⟨rfl,tA⟩;subst pB;go_wp2_with fail;have ot:=eu (H9.o.Vw nx);have mo:Hid (Fr (M2 mb wb) w5 (w9.setCell ⟨mb,10,none⟩ (.int .i64 nx))):=eu (F9.o.set _ _ (.inl (.inl rfl)));generalize w9.setCell ⟨mb,10,none⟩ (.int .i64 nx)=yE at ot mo;clear e0 ey wG ef;have i0:=ot.o.c0;have iy:=ot.o.word pO.o;have jf:=ot.o.MX.frozen a1
   go_region_held3 (λW=>W.cell? ⟨mb,0,none⟩=some (.slice (some ⟨wb,0,none⟩) s3.ws.length s3.ws.length)) (first|go_keep|assumption) (first
    |(go_at_call 75;refine(CH.o _).mono ?_;rintro e FV⟨rfl,Fm⟩;subst FV))
   all_goals
    go_wp2
    first|go_end0|refine Ju rfl rfl ?_
    obtain rfl:=HZ.o;obtain rfl:=HX.o;have f12:Fr (M2 mb wb) w5 (yE.drew.setCell ⟨wb,a1,none⟩ (.int .i64 (Hd 3 0 0))):=mo.o.drew.set _ _ (.inl (.inr rfl));exact⟨F5.o.trans (f12.MD fv),rfl,ot.o.drew.QC a1 (Hd 3 0 0),H5.o.OS.fr f12,H5.o.fl,H5.o.fuel⟩
def nG.leave (s:nG) (taken left:Nat):Option nG:=
 if 1<=s.top/\s.top+taken<=s.ws.length/\left<=1000000 then
  some { s with top:=s.top-1,ws:=(Go.splice s.ws (s.top-1) (s.words s.top taken)).set (s.top-1+taken) (Mk 2 left) }
 else none
variable {n:Nat}
theorem ztp(h:qS w mb wb tl s){l:Nat}(hu:s.leave n l=some s'):
  Calls prog 274 #[.pointer (some ⟨mb,0,none⟩),.int .i64 n,.int .i64 l] w λe w'=>e=.returned (.tuple #[])/\qS w' mb wb tl s'/\Fr (M2 mb wb) w w':=by
 obtain⟨ws,hf,lo,fr,tp⟩:=s;unfold nG.leave at hu;split at hu
 .next hg=>
  obtain rfl:=J8 hu;simp only at hg|-;obtain⟨t,rfl⟩:∃t,tp=t+1:=⟨tp-1,by omega⟩;simp only[Nat.add_sub_cancel];have hlen:ws.length<=1000000:=h.len;obtain⟨R,hR⟩:∃R,ws.length=t+(R+1):=⟨ws.length-t-1,by omega⟩;have sJ:n<=R:=by omega
  have dk:(nG.words ⟨ws,hf,lo,fr,t+1⟩ (t+1) n).length=n:=JZ (by simp only;omega);have lK:∀(j:Nat)x,(nG.words ⟨ws,hf,lo,fr,t+1⟩ (t+1) n)[j]?=some x->ws[t+1+j]?=some x:=λj x hj=>(Mc hj).2
  generalize nG.words ⟨ws,hf,lo,fr,t+1⟩ (t+1) n=xs at dk lK;have H1:=eu (h.VE t);have c4:w.cell? ⟨mb,4,none⟩=some (.int .i64 ((t:Int)+1)):=h.c4;have f4:=h.blk.frozen 4;have HP:Hid (Fr (M2 mb wb) w (w.setCell ⟨mb,4,none⟩ (.int .i64 t))):=eu ((eU _ _).set _ _ (.inl (.inl rfl)));have CM:=eu (λW:World=>YP 2 l W (by omega));obtain⟨z,hz⟩:∃z,Mk 2 l=z:=⟨_,rfl⟩;rw[hz]at CM|-;have mW:t+xs.length<=ws.length:=by omega
  have fP:=QU h.ne;have cR:(n:Int)<=(R:Int):=by omega
  have nI:(R:Int)<=1000000:=by omega
  have mD:=eu lK;clear h hu hg hz lK;go_enter func274,ntmps274;go_wp2_with fail;generalize w.setCell ⟨mb,4,none⟩ (.int .i64 t)=w1 at H1 HP;have CS:=eu (Xf H1.o (n+1) (by simp only;omega));simp only[OC,SQ,QQ (show t<ws.length by omega),show ws.length-t=R+1 by omega]at CS;clear c4 f4;go_wp2_with fail;refine CS.o.mono ?_;rintro e w2⟨rfl,k2,aB⟩;have H2:Hid (qS w2 mb wb tl ⟨ws,hf,lo,fr,t⟩):=eu (by rw[aB];exact H1.o.drewN k2);have F2:Hid (Fr (M2 mb wb) w w2):=eu (by rw[aB];exact HP.o.drewN k2);clear aB CS;by_cases hr:R=0
  .obtain rfl:n=0:=by omega
   obtain rfl:xs=[]:=Sc dk;subst hr;obtain⟨w3,dI,h3,f3⟩:=YM H2.o 3 t 1 1 0 0 (some ⟨wb,t,none⟩) [] (by simp) (λh=>absurd h (by simp)) mW;have H3:=eu h3;have F3:=eu (F2.o.trans f3);have ci:=h3.Rl (i:=t) (by simp only;rw[PI _ _ _ mW];omega);have cf:=h3.MX.frozen t;clear h3 f3;have iJ:(0:Int)<(0:Int)+1:=by omega
   go_wp2_with fail;refine(CM.o _).mono ?_;rintro e w4⟨rfl,uR⟩;subst w4;go_wp2
   first|go_end0|refine Ju rfl rfl ?_
   refine⟨rfl,H3.o.QC t z,?_⟩;exact IL F3.o _ _ (.inl (.inr rfl))
  .obtain⟨w3,dI,h3,f3⟩:=YM H2.o 3 t (n+1) (R+1) n R (some ⟨wb,t+1,none⟩) xs (by simp[];omega) (λh0=>⟨_,rfl,λj x hj=>by rw[Pf];exact H2.o.word (mD.o j x hj)⟩) mW;have H3:=eu h3;have F3:=eu (F2.o.trans f3);have ci:=h3.Rl (i:=t+n) (by simp only;rw[PI _ _ _ mW];omega);have cf:=h3.MX.frozen (t+n);clear h3 f3;have iJ:(n:Int)<(n:Int)+1:=by omega
   go_wp2_with fail;refine(CM.o _).mono ?_;rintro e w4⟨rfl,uR⟩;subst w4;go_wp2
   first|go_end0|refine Ju rfl rfl ?_
   exact⟨rfl,H3.o.QC (t+n) z,F3.o.set _ _ (.inl (.inr rfl))⟩
 .cases hu
def l0.called (m:l0) (lk lf:Nat):Option l0:=
 match m.s.nodeAt 0 with
 |none=>none
 |some (a,_)=>
  match m.s.pop 2 with
  |none=>none
  |some s2=>
   match(if lf=0 then some s2 else s2.leave lk lf)with
   |none=>none
   |some s3=>
    match s3.head a with
    |none=>none
    |some y2=>if s3.ws.length<a+1+MA y2 then none else
     match s3.UH (s3.words (a+1) (MA y2))with
     |none=>none
     |some s4=>
      match s4.head a with
      |none=>none
      |some y3=>some { m with s:=s4,o:={ m.o with next:=y3/65536 } }
def l0.call (m:l0) (lk lf:Nat):Option (Except Nat l0):=
 match m.s.nodeAt 0 with
 |none=>none
 |some (_,y)=>Nj (m.M8 (MA y)) λm1=>(m1.called lk lf).map .ok
theorem zve{lk lf:Nat}(h:qW w mb wb fv m)(hb:m.call lk lf=some r):
  Calls prog 256 #[.pointer (some ⟨mb,0,none⟩),.int .i64 lk,.int .i64 lf] w λe w'=>Ends w mb wb fv r e w':=by
 unfold l0.call at hb;split at hb
 .cases hb
 rename_i a y ha;cases hn:m.M8 (MA y)with
 |none=>rw[hn]at hb;cases hb
 |some r0=>_
 rw[hn]at hb;obtain⟨hx,hh⟩:=Iu ha;obtain⟨hy,aT,bE,aU⟩:=xW hh;have c0:=h.sat.c0;have eo:(a:Int)<(m.s.ws.length:Int):=by omega
 have CC:=eu (λW:World=>Sq y W aT bE);rw[YF aT]at CC;have aN:=Vo y;have HH:=eu h;have CA:=eu (λ(W:World)(hW:qW W mb wb fv m)=>P6 (d:=0) hW.sat _ hx);have HY:=eu hy;have CN:=eu (λ(W:World)(hW:qW W mb wb fv m)=>Pd hW hn);have HN:=eu hn;have HB:=eu hb;have fP:=QU h.sat.ne;generalize MA y=c at *;clear h ha hx hy hh hn aT bE aU hb;go_enter func256,ntmps256;go_wp2_with fail;refine uu (S:=λW=>W.cell? ⟨mb,0,none⟩=some (.slice (some ⟨wb,0,none⟩) m.s.ws.length m.s.ws.length)) (by kernel_rfl) HH.o.sat.drew.c0 (λax=>?_);refine tk 0 ?_
 try simp only[Act.put,MV]
 refine tk 1 ?_
 try simp only[Act.put]
 refine tk 2 ?_
 try simp only[Act.put]
 refine tk 3 ?_
 try simp only[Act.put]
 refine tk 4 ?_
 try simp only[Act.put]
 refine tk 5 ?_
 try simp only[Act.put]
 refine tk 6 ?_
 try simp only[Act.put]
 refine tk 7 ?_
 try simp only[Act.put]
 refine tk 8 ?_
 try simp only[Act.put]
 refine OD 9 rfl λK hK=>?_
 go_simp
 refine(CA.o _ (HH.o.drewN 1)).mono ?_;rintro e w2⟨rfl,k2,aB⟩;have H2:Hid (qW w2 mb wb fv m):=eu (by rw[aB];exact(HH.o.drewN 1).drewN k2);have F2:Hid (Fr (MB mb wb fv) w w2):=eu (by rw[aB];exact(eU _ _).drew.drewN k2);have d0:=H2.o.sat.c0;have dy:=H2.o.sat.word HY.o;clear aB;refine hK.out _ _ d0 (λax=>?_);clear hK K
 try simp only[Act.put,MV,NK,Nh]
 refine tk 10 ?_
 try simp only[Act.put,MV]
 refine OD 11 rfl λK hK=>?_
 go_simp
 refine hK.out _ _ d0 (λax=>?_);clear hK K
 try simp only[Act.put,MV,NK,Nh]
 refine OD 12 rfl λK hK=>?_
 go_simp
 refine(CC.o _).mono ?_;rintro e w3⟨rfl,bL⟩;subst w3;refine hK.out _ _ d0 (λax=>?_);clear hK K
 try simp only[Act.put,MV,NK,Nh]
 refine OD 13 rfl λK hK=>?_
 go_simp
 refine(CN.o _ H2.o).mono ?_;rintro e w4⟨f4,h4⟩;have hb:=HB.o;rcases r0 with k|m1
 .obtain⟨rfl,h4⟩:=h4;obtain rfl:=J8 hb;exact⟨rfl,F2.o.trans f4,rfl,h4⟩
 obtain⟨rfl,h4⟩:=h4;have H4:=eu h4;have F4:=eu (F2.o.trans f4);have g0:w4.cell? ⟨mb,0,none⟩=some (.slice (some ⟨wb,0,none⟩) m.s.ws.length m.s.ws.length):=by rw[h4.sat.c0,zmx HN.o]
 refine hK.out _ _ g0 (λax=>?_);clear hK K
 try simp only[Act.put,MV,NK,Nh]
 refine Jh (by kernel_rfl) ?_ _;clear c0 d0 dy g0 h4 f4;simp only[Nj,M9]at hb;obtain⟨m2,h2,rfl⟩:=hb;unfold l0.called at h2;split at h2
 .cases h2
 rename_i a1 y1 gm;split at h2
 .cases h2
 rename_i s2 jt;split at h2
 .cases h2
 rename_i s3 JP;split at h2
 .cases h2
 rename_i y2 kZ;split at h2
 .cases h2
 rename_i aJ;split at h2
 .cases h2
 rename_i s4 js;split at h2
 .cases h2
 rename_i y3 ld;obtain rfl:=J8 h2;have hle:(lf=0/\s2=s3)\/(0<lf/\s2.leave lk lf=some s3):=by
  by_cases hl:lf=0
  .rw[nB hl]at JP;exact .inl ⟨hl,J8 JP⟩
  .rw[pL hl]at JP;exact .inr ⟨by omega,JP⟩
 obtain⟨ee,_⟩:=Iu gm;obtain⟨lL,iS,iT,ji⟩:=xW kZ;obtain⟨oi,iU,iV,kN⟩:=xW ld;have eR:=eu ee;have kE:=eu jt;have vI:=eu hle;have gE:=eu (kK lL (kK iS (kK iT (show a1+1+MA y2<=s3.ws.length by omega))));have oB:=eu js;have pO:=eu oi;have CW:=eu (λW:World=>RL y3 W iU iV);have rO:(a1:Int)<(s4.ws.length:Int):=by omega
 obtain⟨nx,gx⟩:∃nx,y3/65536=nx:=⟨_,rfl⟩;rw[gx]at CW;have HX:=eu gx;clear gx h2 gm ee kZ lL iS iT ji aJ jt js ld oi iU iV kN hle JP;go_wp2_with fail;refine(P6 (d:=0) H4.o.sat _ eR.o).mono ?_;rintro e w5⟨rfl,k5,dK⟩;have H5:Hid (qW w5 mb wb fv m1):=eu (by rw[dK];exact H4.o.drewN k5);have F5:Hid (Fr (MB mb wb fv) w w5):=eu (by rw[dK];exact F4.o.drewN k5);clear dK;go_wp2_with fail;refine(Kj (c:=2) H5.o.sat kE.o).mono ?_;rintro e w6⟨rfl,h6,f6⟩;have H6:=eu h6;have F6:=eu f6;clear h6 f6;obtain⟨rfl,hle⟩|⟨uM,hle⟩:=vI.o;have H7:Hid (qS w6 mb wb (MU m1.o fv) s3):=eu (by rw[<-hle];exact H6.o);have F7:=F6;clear hle;generalize w6=w7 at H7 F7
 rotate_left
 have ER:(0:Int)<(lf:Int):=by omega
 go_wp2_with fail;refine(ztp H6.o hle).mono ?_;rintro e w7⟨rfl,h7,f7⟩;have H7:=eu h7;have F7:=eu (F6.o.trans f7);clear h7 f7 hle
 all_goals
  go_wp2_with fail
  go_region_held3 (λ_=>True) (trivial) (first
   |(go_at_call 135;refine(Vg H7.o.drew a1 y2 gE.o.1 gE.o.2.1 gE.o.2.2.1 gE.o.2.2.2).mono ?_;rintro e w8⟨rfl,k8,lJ⟩;have H8:Hid (qS w8 mb wb (MU m1.o fv) s3):=eu (by rw[lJ];exact H7.o.drew.drewN k8);have F8:Hid (Fr (M2 mb wb) w5 w8):=eu (by rw[lJ];exact F7.o.drew.drewN k8);clear lJ)
   |(go_at_call 201;refine(nG.zel H8.o oB.o rfl gE.o.2.2.2 (λh0=>QQ (by have:=gE.o.2.2.2;unfold MA at h0 this;omega))).mono ?_;rintro e w9⟨rfl,h9,f9⟩;have H9:=eu h9;have F9:=eu (F8.o.trans f9);clear h9 f9))
  all_goals
   have e0:=H9.o.c0;have ey:=H9.o.word pO.o;have wG:=H9.o.Qy;have ef:=H9.o.blk.frozen 10;go_wp2_with fail;refine(CW.o _).mono ?_;rintro e pB⟨rfl,tA⟩;subst pB;go_wp2
   first|go_end0|refine Ju rfl rfl ?_
   obtain rfl:=HX.o;have f12:Fr (M2 mb wb) w5 (w9.setCell ⟨mb,10,none⟩ (.int .i64 (y3/65536))):=F9.o.set _ _ (.inl (.inl rfl));exact⟨F5.o.trans (f12.MD fv),rfl,H9.o.Vw (y3/65536),H5.o.OS.fr f12,H5.o.fl,H5.o.fuel⟩
def l0.NG (m:l0) (c:Nat):Option l0:=
 if 0<=m.o.below/\m.o.below+(c:Int)<=((m.s.low+m.s.half:Nat):Int)/\m.s.low+m.s.half<=m.s.ws.length/\m.s.top+c<=m.s.ws.length then
  some { m with s:={ m.s with top:=m.s.low+m.s.half-m.o.below.toNat-c,ws:=Go.splice m.s.ws (m.s.low+m.s.half-m.o.below.toNat-c) (m.s.words m.s.top c) } }
 else none
theorem zus(h:qW w mb wb fv m)(hs:m.NG c=some m'):
  Calls prog 139 #[.pointer (some ⟨mb,0,none⟩),.int .i64 c] w λe w'=>Ends w mb wb fv (.ok m') e w':=by
 obtain⟨⟨ws,hf,lo,fr,tp⟩,o,fns⟩:=m;unfold l0.NG at hs;simp only at hs;split at hs
 .next hg=>
  obtain rfl:=J8 hs;obtain⟨b,hb⟩:∃b:Nat,o.below=b:=⟨o.below.toNat,by omega⟩;rw[hb]at hg|-;simp only[MO]at hg|-;have hlen:ws.length<=1000000:=h.sat.len;obtain⟨i,hi⟩:∃i,lo+hf-b-c=i:=⟨_,rfl⟩;rw[hi];have nP:lo+hf=i+c+b:=by omega
  have dk:(nG.words ⟨ws,hf,lo,fr,tp⟩ tp c).length=c:=JZ (by simp only;omega);have lK:∀(j:Nat)x,(nG.words ⟨ws,hf,lo,fr,tp⟩ tp c)[j]?=some x->ws[tp+j]?=some x:=λj x hj=>(Mc hj).2
  generalize nG.words ⟨ws,hf,lo,fr,tp⟩ tp c=xs at dk lK;have br:i+xs.length<=ws.length:=by omega
  have CS:=eu (Xf h.sat c (by simp only;omega));have HH:=eu h;have uE:(lo:Int)+(hf:Int)-(b:Int)=(i:Int)+(c:Int):=by omega
  have CB:=eu (λ(W:World)(hW:qW W mb wb fv ⟨⟨ws,hf,lo,fr,tp⟩,o,fns⟩)=>zlc hW (b:=b) hb (by omega));simp only[uE]at CB;have aA:(i:Int)<=(ws.length:Int):=by omega
  have aw:(0:Int)<=(i:Int):=by omega
  have bD:(i:Int)+(c:Int)<=1000000:=by omega
  have mD:=eu lK;have yb:0<c->cutAt ws.length tp=tp:=λh0=>QQ
  have HT:=eu yb;generalize cutAt ws.length tp=tq at CS yb HT;clear h hs hg hi nP uE lK yb hb;go_enter func139,ntmps139;go_wp2_with fail;refine CS.o.mono ?_;rintro e w1⟨rfl,k1,aD⟩;have H1:Hid (qW w1 mb wb fv ⟨⟨ws,hf,lo,fr,tp⟩,o,fns⟩):=eu (by rw[aD];exact HH.o.drewN k1);have F1:Hid (Fr (M2 mb wb) w w1):=eu (by rw[aD];exact(eU _ _).drewN k1);clear aD CS;go_wp2_with fail;refine(CB.o _ H1.o).mono ?_;rintro e w2⟨rfl,k2,aB⟩;have H2:Hid (qW w2 mb wb fv ⟨⟨ws,hf,lo,fr,tp⟩,o,fns⟩):=eu (by rw[aB];exact H1.o.drewN k2);have F2:Hid (Fr (M2 mb wb) w w2):=eu (by rw[aB];exact F1.o.drewN k2);clear aB CB;have c4:=H2.o.sat.c4;have f4:=H2.o.sat.blk.frozen 4;go_wp2_with fail;have H3:=eu (H2.o.sat.VE i);have F3:Hid (Fr (M2 mb wb) w (w2.setCell ⟨mb,4,none⟩ (.int .i64 i))):=eu (F2.o.set _ _ (.inl (.inl rfl)));generalize w2.setCell ⟨mb,4,none⟩ (.int .i64 i)=w3 at H3 F3;have d0:=H3.o.c0;have d4:=H3.o.c4;simp only at d0 d4;have pJ:Hid (0<xs.length->∃ad,(some (⟨wb,tq,none⟩:Addr))=some ad/\∀(j:Nat)x,xs[j]?=some x->w3.drew.cell? (ad.add j)=some (.int .i64 x)):=eu (λh0=>⟨_,rfl,λj x hj=>by rw[Pf,HT.o (by omega)];exact H3.o.drew.word (mD.o j x hj)⟩)
  clear c4 f4 HT mD;by_cases hr:ws.length=i
  .obtain rfl:xs=[]:=Sc (by omega);obtain rfl:c=0:=by simpa using dk.symm
   go_region_held3 (λW=>W.cell? ⟨mb,0,none⟩=some (.slice (some ⟨wb,0,none⟩) ws.length ws.length)/\W.cell? ⟨mb,4,none⟩=some (.int .i64 i)) (first|go_keep|(refine⟨?_,?_⟩<;>assumption)) (first
    |(refine Tg (by rfl) _ _ (by rfl) H3.o.drew _ _ _ _ _ _ (by rfl) (by rfl) [] (by simp) (λh=>absurd h (by simp)) (by simp) ?_;intro w5 h5 f5;have H5:=eu h5;have F5:=eu f5;have e0:=h5.c0;have e4:=h5.c4;simp only[splice,Rp,MQ,Sb,My,PU]at e0 e4;clear h5 f5))
   all_goals
    go_wp2;go_end0
    have f5:=F3.o.trans ((eU _ _).drew.trans F5.o);refine⟨f5.MD fv,rfl,?_,HH.o.OS.fr f5,HH.o.fl,HH.o.fuel⟩;have:=H5.o;simpa[splice]using this
  .have aj:i<ws.length:=by omega
   go_region_held3 (λW=>W.cell? ⟨mb,0,none⟩=some (.slice (some ⟨wb,0,none⟩) ws.length ws.length)/\W.cell? ⟨mb,4,none⟩=some (.int .i64 i)) (first|go_keep|(refine⟨?_,?_⟩<;>assumption)) (first
    |(refine Tg (by rfl) _ _ (by rfl) H3.o.drew i _ _ _ _ _ (by rfl) (by rfl) xs (by rw[dk];exact(Sa (by omega)).symm) pJ.o br ?_;intro w5 h5 f5;have H5:=eu h5;have F5:=eu f5;have e0:=h5.c0;have e4:=h5.c4;simp only[PI _ _ _ br]at e0 e4;clear h5 f5))
   all_goals
    go_wp2;go_end0
    have f5:=F3.o.trans ((eU _ _).drew.trans F5.o);exact⟨f5.MD fv,rfl,H5.o,HH.o.OS.fr f5,HH.o.fl,HH.o.fuel⟩
 .cases hs
def QG (k n t a:Int):Value:=.agg #[.int .i64 k,.int .i64 n,.int .i64 t,.int .i64 a]
theorem qW.alloc{w:World}{mb wb:Nat}{fv:Value}{m:l0}(h:qW w mb wb fv m)(o:Obj):qW (w.alloc o) mb wb fv m:=⟨h.sat.below (Mi w o),h.OS.fr (oq (Mi w o)),h.fl,h.fuel⟩
variable {W:World}
theorem oH.c4{s:Nat}{a b c d:Value}{ty:TypeId}(h:oH W s [a,b,c,d] ty):W.cell? ⟨s,0,none⟩=some a/\W.cell? ⟨s,1,none⟩=some b/\W.cell? ⟨s,2,none⟩=some c/\W.cell? ⟨s,3,none⟩=some d:=
 ⟨by simpa using al h 0,by simpa using al h 1,by simpa using al h 2,by simpa using al h 3⟩
theorem oH.Wt{s:Nat}{a b c d:Value}{ty:TypeId}(h:oH W s [a,b,c,d] ty)(x y z u:Value):oH ((((W.setCell ⟨s,0,none⟩ x).setCell ⟨s,1,none⟩ y).setCell ⟨s,2,none⟩ z).setCell ⟨s,3,none⟩ u) s [x,y,z,u] ty:=(((h.set 0 x).set 1 y).set 2 z).set 3 u
theorem Fr.Wt{K:Nat->Prop}{s:Nat}(h:Fr K w W)(hs:w.heap.size<=s)(x y z u:Value):Fr K w ((((W.setCell ⟨s,0,none⟩ x).setCell ⟨s,1,none⟩ y).setCell ⟨s,2,none⟩ z).setCell ⟨s,3,none⟩ u):=
 (((h.set _ x (.inr hs)).set _ y (.inr hs)).set _ z (.inr hs)).set _ u (.inr hs)
theorem zG7(h:qW w mb wb fv m)(ha:m.s.nodeAt 0=some (a,y)){o:Int × Int × Int × Int}(ho:(y%16=0/\∃v,m.s.ws[a+1]?=some v/\o=(1,v,0,0))\/(y%16=1/\o=(2,0,y/65536,y/16%4096))\/(y%16≠0/\y%16≠1/\o=(3,0,0,0))):
  Calls prog 48 #[.pointer (some ⟨mb,0,none⟩)] w λe w'=>e=.returned (QG o.1 o.2.1 o.2.2.1 o.2.2.2)/\Fr (λ_=>False) w w':=by
 obtain⟨hx,hh⟩:=Iu ha;obtain⟨hy,aT,bE,aU⟩:=xW hh;have eo:(a:Int)<(m.s.ws.length:Int):=by omega
 have hlen:=h.sat.len;have CA:=eu (λ(W:World)(hW:qW W mb wb fv m)=>P6 (d:=0) hW.sat _ hx);have CK:=eu (λW:World=>QM y W aT bE);have CW:=eu (λW:World=>RL y W aT bE);have CC:=eu (λW:World=>Sq y W aT bE);generalize y/65536=tg at *;generalize y/16%4096=ct at *;have HH:=eu h;have HY:=eu hy;have iD:w.heap.size≠mb:=by have:=h.sat.blk.lt;omega
 clear h ha hx hh aT bE aU;generalize y%16=k at *;obtain⟨rfl,v,hv,rfl⟩|⟨rfl,rfl⟩|⟨h0,h1,rfl⟩:=ho;have HV:Hid (∀W,qW W mb wb fv m->W.cell? ⟨wb,a+1,none⟩=some (.int .i64 v)):=eu λW hW=>hW.sat.word hv
 have ji:(a:Int)+1<(m.s.ws.length:Int):=by have:=(Dq.1 hv).1;omega
 clear hv
 rotate_left 2
 have dF:(k == 0)=false:=by rw[kJ];exact h0
 have cK:(k == 1)=false:=by rw[kJ];exact h1
 clear h0 h1
 all_goals
  clear hy;go_enter func48,ntmps48;go_wp2_with fail;have HB:=eu (gH w [.int .i64 0,.int .i64 0,.int .i64 0,.int .i64 0] 35);refine(CA.o _ (HH.o.alloc _)).mono ?_;rintro e w1⟨rfl,k1,aD⟩;have H1:Hid (qW w1 mb wb fv m):=eu (by rw[aD];exact(HH.o.alloc _).drewN k1);have B1:Hid (oH w1 w.heap.size [.int .i64 0,.int .i64 0,.int .i64 0,.int .i64 0] 35):=eu (by rw[aD];exact HB.o);have F1:Hid (Fr (λ_=>False) w w1):=eu (by rw[aD];exact((eU _ _).alloc _).drewN k1);clear aD HB;have c0:=H1.o.sat.c0;have cy:=H1.o.sat.word HY.o
  try have cv:=HV.o _ H1.o
  obtain⟨q0,q1,q2,q3⟩:=B1.o.c4;have g0:=ku B1.o 0;have g1:=ku B1.o 1;have g2:=ku B1.o 2;have g3:=ku B1.o 3;go_wp2_with fail;refine(CK.o _).mono ?_;rintro e w2⟨rfl,aB⟩;subst w2;go_wp2_with fail
  try
   refine(CW.o _).mono ?_;rintro e w3⟨rfl,bL⟩;subst w3;go_wp2_with fail;refine(CC.o _).mono ?_;rintro e w3⟨rfl,bL⟩;subst w3;go_wp2_with fail
  have p:=λx y z u=>(B1.o.Wt x y z u).c4
  refine mF (by simp[results,Tryz.results48,go_sem,p];rfl) rfl ⟨rfl,?_⟩;exact F1.o.Wt (qP _) _ _ _ _
def nG.fill (s:nG) (x:Int):Nat->Option nG
 |0=>some s
 |k+1=>if s.free<s.ws.length then nG.fill { s with ws:=s.ws.set s.free x,free:=s.free+1 } x k else none
def l0.zjH (m:l0) (hd:Int) (c:Nat):Option (Except Nat l0):=Nj (m.M8 (c+2)) λm1=>m1.put ((m1.s.node hd []).bind λs=>(s.fill m1.s.free c).bind λq=>q.push m1.s.free)
theorem zpL(h:qW w mb wb fv m)(jl:c<=1000000)(hc:m.zjH hd c=some r):
  Calls prog 134 #[.pointer (some ⟨mb,0,none⟩),.int .i64 hd,.int .i64 c] w λe w'=>Ends w mb wb fv r e w':=by
 unfold l0.zjH Nj at hc;split at hc
 .cases hc
 .next k hn=>obtain rfl:=J8 hc;have CN:=eu (Pd h hn);simp only[OC,SQ]at CN;clear h hn hc;go_enter func134,ntmps134;go_wp2_with fail;refine CN.o.mono ?_;rintro e w1⟨f1,rfl,h1⟩;exact⟨rfl,f1,rfl,h1⟩
 .next m1 hn=>
  have CN:=eu (Pd h hn);simp only[OC,SQ]at CN;simp only[l0.put,M9,JM]at hc;obtain⟨s4,⟨s2,bg,s3,nN,aM⟩,rfl⟩:=hc;have HN:=eu bg;have HF:=eu nN;have pH:=eu aM;obtain⟨x,hx⟩:∃x,m1.s.free=x:=⟨_,rfl⟩;rw[hx]at HF pH;have HX:=eu hx;clear h hn bg nN aM hx;go_enter func134,ntmps134;go_wp2_with fail;refine CN.o.mono ?_;rintro e w1⟨f1,rfl,h1⟩;have F1:=eu f1;have H1:=eu h1;clear f1 h1 CN;have CD:=eu (nG.UG (sp:=none) (cp:=0) H1.o.sat HN.o (λh0=>absurd h0 (by simp)));rw[HX.o]at CD;go_wp2_with fail;refine CD.o.mono ?_;rintro e w2⟨rfl,h2,f2⟩;have H2:=eu h2;have F2:=eu f2;clear h2 f2 CD;go_wp2_with fail
  go_loopg [17] c (λgk av wr=>∃(j:Nat)(q:nG),av=.int .i64 j/\j+gk=c/\qS wr mb wb (MU m1.o fv) q/\q.fill x gk=some s3/\Fr (M2 mb wb) w1 wr)
  case atStart=>exact⟨0,s2,rfl,by omega,H2.o,HF.o,F2.o⟩
  case round=>
   obtain⟨j,q,rfl,hj,hq,bZ,ak⟩:=hrel;cases gk with
   |zero=>
    have HQ:Hid (qS wr mb wb (MU m1.o fv) s3):=eu (by rw[<-J8 bZ];exact hq);have cY:=eu ak;have sy:¬(j:Int)<(c:Int):=by omega
    clear hq bZ ak;go_wp2_with fail;refine(I9 HQ.o pH.o).mono ?_;rintro e w5⟨rfl,h5,f5⟩;have H5:=eu h5;have F5:=eu (cY.o.trans f5);clear h5 f5;go_wp2
    first|go_end0|refine Ju rfl rfl ?_
    exact⟨F1.o.trans (F5.o.MD fv),rfl,H1.o.O6 H5.o F5.o⟩
   |succ g=>
    rw[nG.fill]at bZ;split at bZ
    .next aj=>
     obtain⟨ws,hf,lo,fr,tp⟩:=q;simp only at aj bZ;have sy:(j:Int)<(c:Int):=by omega
     have c0:=hq.c0;have c3:=hq.c3;have cw:=hq.Rl (i:=fr) aj;have cf:=hq.MX.frozen fr;have fP:=QU hq.ne;simp only at c0 c3 cw;have aA:(fr:Int)<(ws.length:Int):=by omega
     have aw:(0:Int)<=(fr:Int):=by omega
     have hlen:ws.length<=1000000:=hq.len;have HQ:=eu hq;have cY:=eu ak;have pG:=eu bZ;clear hq bZ ak;go_wp2_with fail
     go_region_held3 (λW=>W.cell? ⟨mb,0,none⟩=some (.slice (some ⟨wb,0,none⟩) ws.length ws.length)/\W.cell? ⟨mb,3,none⟩=some (.int .i64 fr)) (go_keep) (fail)
     all_goals
      have H5:=eu (HQ.o.QC fr x).drew;have F5:Hid (Fr (M2 mb wb) w1 ((wr.setCell ⟨wb,fr,none⟩ (.int .i64 x)).drew)):=eu (cY.o.set _ _ (.inl (.inr rfl))).drew;generalize(wr.setCell ⟨wb,fr,none⟩ (.int .i64 x)).drew=w5 at H5 F5;clear c0 c3 cw cf;have d3:=H5.o.c3;have df:=H5.o.blk.frozen 3;simp only at d3;go_wp2
      go_roundg g
      case measure=>omega
      case rel=>refine⟨j+1,_,by go_num,by omega,H5.o.Xr (fr+1),pG.o,?_⟩;exact F5.o.set _ _ (.inl (.inl rfl))
    .cases bZ
theorem zxp:(prog.info? 2).map (λi=>(i.size,i.bytes,i.zero))=some (1,8,some (.int .i64 0)):=by kernel_rfl
theorem zyq(n:Nat):madeCells (Value.cells (.int .i64 0)) n=(MG (List.replicate n 0)).toArray:=by
 apply Array.ext
 .simp[madeCells,MG]
 .intro i h1 h2;simp[madeCells,MG,Value.cells,Nat.mod_one]
theorem YO(hn:n<=1000000)(W:World):(Instr.makeSlice 76 (.int .i64 (n:Int)) (.int .i64 (n:Int))).run prog W=.ok (.slice (some ⟨W.heap.size,0,none⟩) n n) (W.alloc (.cells (MG (List.replicate n 0)).toArray 2)):=by obtain⟨i,hi,he⟩:=M9.1 zxp;simp only[O2]at he;obtain⟨h1,h2,h3⟩:=he;have:=run_make (P:=prog) W 76 2 i (.int .i64 0) underlying76 hi h3 .i64 .i64 n n (by omega) (by omega) (by rw[h2];omega) (by omega);rw[this,h1,MO,S8,zyq]
theorem zih(hn:n<=1000000):
  Calls prog 44 #[.int .i64 n] w λe w'=>e=.returned (.agg #[.slice (some ⟨w.heap.size+1,0,none⟩) n n,.int .i64 ((n:Int)/2),.int .i64 0,.int .i64 0,.int .i64 ((n:Int)/2)])/\oH w' (w.heap.size+1) (MG (List.replicate n 0)) 2/\Fr (λ_=>False) w w':=by
 have hb:(n:Int)<=1000000:=by omega
 have kf:(0:Int)<=(n:Int):=by omega
 have HM:=YO hn;obtain⟨vs,gW⟩:∃vs,MG (List.replicate n 0)=vs:=⟨_,rfl⟩;rw[gW]at HM|-;clear gW;go_enter func44,ntmps44;go_wp2_with fail;generalize(n:Int)/2=q;have cE:=(gH w [.slice (some ⟨w.heap.size+1,0,none⟩) n n,.int .i64 q,.int .i64 0,.int .i64 0,.int .i64 q] 78).alloc (.cells vs.toArray 2);have BV:=gH (w.alloc (.cells #[.slice (some ⟨w.heap.size+1,0,none⟩) n n,.int .i64 q,.int .i64 0,.int .i64 0,.int .i64 q] 78)) vs 2;rw[show(w.alloc (.cells #[.slice (some ⟨w.heap.size+1,0,none⟩) n n,.int .i64 q,.int .i64 0,.int .i64 0,.int .i64 q] 78)).heap.size=w.heap.size+1 by simp]at BV;have p0:=al cE 0;have p1:=al cE 1;have p2:=al cE 2;have p3:=al cE 3;have p4:=al cE 4;simp only[Pk,R7]at p0 p1 p2 p3 p4;refine mF (by simp[results,Tryz.results44,go_sem,p0,p1,p2,p3,p4]) rfl ⟨rfl,BV,((eU _ _).alloc _).alloc _⟩
def l0.extended (m:l0) (has c:Nat):Option l0:=
 match m.s.nodeAt 0 with
 |none=>none
 |some (a,y)=>if has+c<4096/\y/65536<=1000000000/\a+1+MA y<=m.s.ws.length/\(m.s.free<a+1\/a+1+MA y<=m.s.free)/\1<=c then
   match m.s.node (Hd 2 (y/65536).toNat (has+c)) (m.s.words (a+1) (MA y))with
   |none=>none
   |some s2=>if s2.ws[a]?=some y/\s2.ws.length=m.s.ws.length/\s2.top+2+c<=s2.ws.length/\s2.free+c<=s2.ws.length then
     (nG.pop { s2 with ws:=Go.splice s2.ws s2.free (s2.words (s2.top+2) c),free:=s2.free+c } (2+c)).bind λs4=>(s4.push m.s.free).map λs5=>{ m with s:=s5 }
    else none
  else none
def l0.extend (m:l0) (c:Nat):Option (Except Nat l0):=
 match m.s.nodeAt 0 with
 |none=>none
 |some (_,y)=>Nj (m.M8 (1+MA y+c)) λm1=>(m1.extended (MA y) c).map .ok
theorem zvj{tp R:Nat}(hR:R≠0):∀W:World,(Instr.slice 76 (.slice (some ⟨wb,tp,none⟩) (2+c) (R+2)) (some (.int .i64 2)) none none).run prog W=.ok (.slice (some ⟨wb,tp+2,none⟩) c R) W:=by
 intro W;rw[run_slice_l W 76 _ _ _ underlying76 .i64 2 (by omega) (by omega)];have e3:prog.elem 76=2:=by kernel_rfl
 rw[e3,sizeOf2];have e4:((2:Int)).toNat=2:=rfl;simp only[Result.andThen,sliced,e4,S8,Qx,Pf];rw[qj,show 2+c-2=c by omega,show R+2-2=R by omega]
theorem zrq(h:qW w mb wb fv m)(jl:c<=1000000)(hb:m.extend c=some r):
  Calls prog 255 #[.pointer (some ⟨mb,0,none⟩),.int .i64 c] w λe w'=>Ends w mb wb fv r e w':=by
 unfold l0.extend at hb;split at hb
 .cases hb
 rename_i a y ha;cases hn:m.M8 (1+MA y+c)with
 |none=>rw[hn]at hb;cases hb
 |some r0=>_
 rw[hn]at hb;obtain⟨hx,hh⟩:=Iu ha;obtain⟨hy,aT,bE,aU⟩:=xW hh;have c0:=h.sat.c0;have cy:=h.sat.word hy;have eo:(a:Int)<(m.s.ws.length:Int):=by omega
 have CC:=eu (λW:World=>Sq y W aT bE);rw[YF aT]at CC;have aN:=Vo y;have CA:=eu (λn:Nat=>P6 (d:=0) (h.drewN n).sat _ hx);have HH:=eu h;have HN:=eu hn;have HE:=eu hb;have CN:=eu (λ(W:World)(hW:qW W mb wb fv m)=>Pd hW hn);simp only[OC,SQ]at CN;generalize MA y=k at *;have kj:(k:Int)<4096:=by omega
 have jj:(c:Int)<=1000000:=by omega
 clear h ha hx hy hh hn aT bE aU jl hb;go_enter func255,ntmps255;go_wp2_with fail
 go_quiet ((first|(go_at_call 82;exact qV (CA.o _))|(go_at_call 85;exact qQ (CC.o _))))
 have H1:=eu (HH.o.drewN nq);have F1:Hid (Fr (MB mb wb fv) w (w.drewN nq)):=eu ((eU _ _).drewN nq);generalize w.drewN nq=w1 at H1 F1;clear c0 cy;go_wp2_with fail;refine(CN.o _ H1.o).mono ?_;rintro e w2⟨f2,h2⟩;have he:=HE.o;rcases r0 with j|m1
 .obtain⟨rfl,h2⟩:=h2;obtain rfl:=J8 he;exact⟨rfl,F1.o.trans f2,rfl,h2⟩
 obtain⟨rfl,h2⟩:=h2;simp only[Nj,M9]at he;obtain⟨m',he,rfl⟩:=he;unfold l0.extended at he;split at he
 .cases he
 rename_i a1 y1 gm;split at he
 rotate_left
 .cases he
 rename_i hg;split at he
 .cases he
 rename_i s2 bg;obtain⟨ws,hf,lo,fr,tp⟩:=s2;simp only at he;split at he
 rotate_left
 .cases he
 rename_i aF;simp only[JM,M9]at he;obtain⟨s4,dW,s5,aM,rfl⟩:=he;obtain⟨ee,sq⟩:=Iu gm;obtain⟨hz,bq,aP,oR⟩:=xW sq;have CW:=eu (λW:World=>RL y1 W bq aP);obtain⟨b,hb⟩:∃b:Nat,y1/65536=b:=⟨(y1/65536).toNat,by omega⟩;rw[hb]at CW hg;rw[hb,MO]at bg;have CH:=eu (λW:World=>Rg 2 b (k+c) W (by omega) (by omega));simp only[OC]at CH;obtain⟨z,kk⟩:∃z,Hd 2 b (k+c)=z:=⟨_,rfl⟩;rw[kk]at CH bg;obtain⟨L,hL⟩:∃L,m1.s.ws.length=L:=⟨_,rfl⟩;have Gs:L<=1000000:=by have:=zmx HN.o;have:=HH.o.sat.len;omega
 have tD:ws.length=L:=by rw[<-hL];exact aF.2.1
 obtain⟨R,hR⟩:∃R,L=tp+(R+2):=⟨L-tp-2,by omega⟩;have rT:(c:Int)<=(R:Int):=by omega
 have rI:R≠0:=by omega
 have nI:(R:Int)<=1000000:=by omega
 have ak:fr+c<=L:=by omega
 have Aa:(a1:Int)<(L:Int):=by omega
 have dk:(nG.words ⟨ws,hf,lo,fr,tp⟩ (tp+2) c).length=c:=JZ (by simp only;omega);have lK:∀(j:Nat)x,(nG.words ⟨ws,hf,lo,fr,tp⟩ (tp+2) c)[j]?=some x->ws[tp+2+j]?=some x:=λj x hj=>(Mc hj).2
 generalize nG.words ⟨ws,hf,lo,fr,tp⟩ (tp+2) c=xs at dk lK dW;have mD:=eu lK;have HR:=eu hR;have yW:=eu ak;have jg:=eu tD;have HL:=eu hL;have eR:=eu ee;have HZ:=eu (kK hz (kK bq (kK aP hg.2.2.1)));have ue:=eu (kK bg hg.2.2.2.1);have eK:=eu aF;have kE:=eu dW;have je:=eu aM;have jj:(c:Int)<4096:=by omega
 have bH:=hg.2.2.2.2;clear gm ee sq hz bq aP oR hg aF bg dW aM hb kk lK tD hL hR ak;have H2:=eu h2;have F2:=eu (F1.o.trans f2);clear h2 f2 CN;go_wp2_with fail;refine(P6 (d:=0) H2.o.sat _ eR.o).mono ?_;rintro e w3⟨rfl,k3,bL⟩;have H3:Hid (qW w3 mb wb fv m1):=eu (by rw[bL];exact H2.o.drewN k3);have F3:Hid (Fr (MB mb wb fv) w w3):=eu (by rw[bL];exact F2.o.drewN k3);clear bL;have c0:=H3.o.sat.c0;rw[HL.o]at c0;have cy:=H3.o.sat.word HZ.o.1;have uS:IntKind.i64.wrap ((k:Int)+(c:Int))=(k:Int)+(c:Int):=P9 _ (by omega) (by omega);go_wp2_with fail
 go_region_held3 (λW=>W.cell? ⟨mb,0,none⟩=some (.slice (some ⟨wb,0,none⟩) L L)/\W.cell? ⟨wb,a1,none⟩=some (.int .i64 y1)) (first|go_keep|(refine⟨?_,?_⟩<;>assumption)) (first
  |(go_at_call 84;refine(CW.o _).mono ?_;rintro e w4⟨rfl,uR⟩;subst w4)
  |(go_at_call 75;refine(CH.o _).mono ?_;rintro e w4⟨rfl,uR⟩;subst w4)
  |(go_at_call 135;refine(Vg H3.o.sat.drew a1 y1 HZ.o.1 HZ.o.2.1 HZ.o.2.2.1 HZ.o.2.2.2).mono ?_;rintro e w5⟨rfl,k5,dK⟩;have H5:Hid (qS w5 mb wb (MU m1.o fv) m1.s):=eu (by rw[dK];exact H3.o.sat.drew.drewN k5);have F5:Hid (Fr (M2 mb wb) w3 w5):=eu (by rw[dK];exact(eU _ _).drew.drewN k5);have e0:w5.cell? ⟨mb,0,none⟩=some (.slice (some ⟨wb,0,none⟩) L L):=(by rw[H5.o.c0,HL.o]);have ey:=H5.o.word HZ.o.1;clear dK)
  |(go_at_call 74;refine(nG.zqI H5.o ue.o.1 ue.o.2 HZ.o.2.2.2 (λh0=>QQ (by have:=HZ.o.2.2.2;omega))).mono ?_;rintro e w6⟨rfl,h6,f6⟩;have H6:=eu h6;have F6:=eu (F5.o.trans f6);have g0:w6.cell? ⟨mb,0,none⟩=some (.slice (some ⟨wb,0,none⟩) L L):=(by rw[h6.c0];simp only;rw[jg.o]);have gy:=h6.word eK.o.1;clear h6 f6))
 all_goals
  clear c0 cy e0 ey g0 gy;have hR:=HR.o;have ak:=yW.o;have c0:w6.cell? ⟨mb,0,none⟩=some (.slice (some ⟨wb,0,none⟩) L L):=by rw[H6.o.c0];simp only;rw[jg.o]
  have c3:w6.cell? ⟨mb,3,none⟩=some (.int .i64 fr):=H6.o.c3;have CS:=eu (Xf H6.o.drew (2+c) (by simp only;rw[jg.o];omega));simp only[OC,SQ,jg.o,QQ (show tp<L by omega),show L-tp=R+2 by omega]at CS;have aA:(fr:Int)<=(L:Int):=by omega
  have aw:(0:Int)<=(fr:Int):=by omega
  have aj:fr<L:=by omega
  have aH:¬L=fr:=by omega
  have tC:IntKind.i64.wrap (2+(c:Int))=2+(c:Int):=P9 _ (by omega) (by omega);have aJ:fr+xs.length<=ws.length:=by rw[jg.o];omega
  have fZ:=eu aJ;have py:=zvj (wb:=wb) (tp:=tp) (c:=c) rI;clear hR aJ;go_wp2_with fail
  go_region_held3 (λW=>W.cell? ⟨mb,0,none⟩=some (.slice (some ⟨wb,0,none⟩) L L)/\W.cell? ⟨mb,3,none⟩=some (.int .i64 fr)) (first|go_keep|(refine⟨?_,?_⟩<;>assumption)) (first
   |(go_at_call 136;refine CS.o.mono ?_;rintro e w7⟨rfl,k7,og⟩;have H7:Hid (qS w7 mb wb (MU m1.o fv) ⟨ws,hf,lo,fr,tp⟩):=eu (by rw[og];exact H6.o.drew.drewN k7);have F7:Hid (Fr (M2 mb wb) w3 w7):=eu (by rw[og];exact F6.o.drew.drewN k7);have d0:w7.cell? ⟨mb,0,none⟩=some (.slice (some ⟨wb,0,none⟩) L L):=(by rw[H7.o.c0];simp only;rw[jg.o]);have d3:w7.cell? ⟨mb,3,none⟩=some (.int .i64 fr):=H7.o.c3;clear og)
   |(refine Tg (by rfl) _ _ (by rfl) H7.o fr _ _ _ _ _ (by rfl) (by rfl) xs (by rw[dk];exact(Sa (by omega)).symm) (λh0=>⟨_,rfl,λj x hj=>by rw[Pf];exact H7.o.word (mD.o j x hj)⟩) fZ.o ?_;intro w8 h8 f8;have H8:=eu h8;have F8:=eu (F7.o.trans f8);have e0:w8.cell? ⟨mb,0,none⟩=some (.slice (some ⟨wb,0,none⟩) L L):=(by rw[h8.c0];simp only;rw[PI _ _ _ fZ.o,jg.o]);have e3:w8.cell? ⟨mb,3,none⟩=some (.int .i64 fr):=h8.c3;clear h8 f8))
  all_goals
   clear c0 c3 d0 d3 e0 e3 py aH aj aA aw;have c3:w8.cell? ⟨mb,3,none⟩=some (.int .i64 fr):=H8.o.c3;have cf:=H8.o.blk.frozen 3;have ak:=yW.o;have Fu:IntKind.i64.wrap ((fr:Int)+(c:Int))=(fr:Int)+(c:Int):=P9 _ (by omega) (by omega);have H9:=eu (H8.o.Xr (fr+c));have F9:Hid (Fr (M2 mb wb) w3 (w8.setCell ⟨mb,3,none⟩ (.int .i64 ((fr+c:Nat):Int)))):=eu (F8.o.set _ _ (.inl (.inl rfl)));have yI:=eu (λ(W:World)(hW:qS W mb wb (MU m1.o fv) _)=>Kj hW kE.o);simp only[OC,SQ]at yI H9 F9;clear ak;go_wp2_with fail;generalize w8.setCell ⟨mb,3,none⟩ (.int .i64 ((fr:Int)+(c:Int)))=w9 at H9 F9|-;clear c3 cf;go_wp2_with fail;refine(yI.o _ H9.o).mono ?_;rintro e pB⟨rfl,uz,f10⟩;have Bz:=eu uz;have Br:=eu (F9.o.trans f10);clear uz f10;go_wp2_with fail;refine(I9 Bz.o je.o).mono ?_;rintro e yE⟨rfl,zA,f11⟩;have ot:=eu zA;have mo:=eu (Br.o.trans f11);clear zA f11;go_wp2
   first|go_end0|refine Ju rfl rfl ?_
   exact⟨F3.o.trans (mo.o.MD fv),rfl,H3.o.O6 ot.o mo.o⟩
theorem Zc(h:m.M8 c=some (.ok m')):m'.o=m.o:=by
 unfold l0.M8 at h;split at h
 .cases h;rfl
 .split at h
  .cases h
  .split at h
   .cases h
   .cases h;rfl
theorem zqt(h:m.extend c=some (.ok m')):m'.o=m.o:=by
 unfold l0.extend at h;split at h
 .cases h
 .unfold Nj at h;split at h
  .cases h
  .cases h
  .next m1 hn=>
   simp only[M9]at h;obtain⟨m2,h2,h3⟩:=h;cases h3;rw[<-Zc hn];unfold l0.extended at h2;split at h2
   .cases h2
   .split at h2
    .split at h2
     .cases h2
     .split at h2
      .simp only[JM,M9]at h2;obtain⟨s4,_,s5,_,rfl⟩:=h2;rfl
      .cases h2
    .cases h2
def VU (w:World) (mb wb:Nat) (fv:Value) (r:Except Nat (Bool × l0)) (e:Ending) (w':World):Prop:=
 Fr (MB mb wb fv) w w'/\match r with
 |.ok q=>e=.returned (.bool q.1)/\qW w' mb wb fv q.2
 |.error k=>e=up k/\∃m',qW w' mb wb fv m'
def l0.NX (m:l0) (sl:List Nat) (c:Nat):Option (Except Nat (Bool × l0)):=
 match m.s.nodeAt 0 with
 |none=>none
 |some (a,_)=>
  match m.s.Qo sl a with
  |none=>none
  |some l=>if l<0 then some (.error 3)else
   if(c:Int)<l then(match m.extend c with|none=>none|some (.error k)=>some (.error k)|some (.ok m')=>some (.ok (false,m')))
   else if 2000000<c then none
   else(match m.call l.toNat (c-l.toNat)with|none=>none|some (.error k)=>some (.error k)|some (.ok m')=>some (.ok (true,m')))
theorem zvL{pv:Value}(hB:O4 w mb wb fv pv sl)(hl:s.Qo sl a=some l):l<=1000000:=by
 obtain⟨_,_,_,_,_,h4⟩:=hB;unfold nG.Qo at hl;split at hl
 .cases hl
 .split at hl
  .cases hl
  .split at hl
   .split at hl
    .cases hl
    .next n hn=>obtain rfl:=J8 hl;have:=(h4 _ n hn).1;omega
   .obtain rfl:=J8 hl;omega
theorem zsv{r:Except Nat (Bool × l0)}(h:qW w mb wb fv m)(hB:O4 w mb wb fv m.o.pb sl)(hb:m.NX sl c=some r)(jl:c<=1000000000):
  Calls prog 205 #[.pointer (some ⟨mb,0,none⟩),.int .i64 c] w λe w'=>VU w mb wb fv r e w':=by
 unfold l0.NX at hb;split at hb
 .cases hb
 .next a y ha=>
  obtain⟨hx,hh⟩:=Iu ha;split at hb
  .cases hb
  .next l hl=>
   have CA:=eu (P6 (d:=0) h.sat _ hx);have CL:=eu (λ(W:World)(hW:qW W mb wb fv m)(rM:O4 W mb wb fv m.o.pb sl)=>zjp hW rM hl);have HH:=eu h;have HB:=eu hB;have o5:l<=1000000:=zvL hB hl;split at hb
   .next dV=>obtain rfl:=J8 hb;clear h hB ha hx hh hl;go_enter func205,ntmps205;go_wp2_with fail;refine CA.o.mono ?_;rintro e w1⟨rfl,k1,aD⟩;have H1:Hid (qW w1 mb wb fv m):=eu (by rw[aD];exact HH.o.drewN k1);have F1:Hid (Fr (MB mb wb fv) w w1):=eu (by rw[aD];exact(eU _ _).drewN k1);clear aD;go_wp2_with fail;refine(CL.o _ H1.o (HB.o.fr F1.o)).mono ?_;rintro e w2⟨rfl,k2,aB⟩;have H2:Hid (qW w2 mb wb fv m):=eu (by rw[aB];exact H1.o.drewN k2);have F2:Hid (Fr (MB mb wb fv) w w2):=eu (by rw[aB];exact F1.o.drewN k2);clear aB;go_wp2_with fail;refine(Tm 3 _).mono ?_;rintro e w4⟨rfl,uR⟩;subst w4;exact⟨rfl,F2.o,rfl,_,H2.o⟩
   .next dV=>
    obtain⟨n,rfl⟩:∃n:Nat,l=n:=⟨l.toNat,by omega⟩;rw[MO]at hb;split at hb
    .next aj=>
     have xp:c<=1000000:=by omega
     obtain⟨q,hq⟩:∃q,m.extend c=some q:=by
      cases hq:m.extend c with
      |none=>rw[hq]at hb;cases hb
      |some q=>exact⟨q,rfl⟩
     rw[hq]at hb;have CE:=eu (λ(W:World)(hW:qW W mb wb fv m)=>zrq hW xp hq);clear h hB ha hx hh hl dV;have lq:¬(n:Int)<0:=by omega
     go_enter func205,ntmps205;go_wp2_with fail;refine CA.o.mono ?_;rintro e w1⟨rfl,k1,aD⟩;have H1:Hid (qW w1 mb wb fv m):=eu (by rw[aD];exact HH.o.drewN k1);have F1:Hid (Fr (MB mb wb fv) w w1):=eu (by rw[aD];exact(eU _ _).drewN k1);clear aD;go_wp2_with fail;refine(CL.o _ H1.o (HB.o.fr F1.o)).mono ?_;rintro e w2⟨rfl,k2,aB⟩;have H2:Hid (qW w2 mb wb fv m):=eu (by rw[aB];exact H1.o.drewN k2);have F2:Hid (Fr (MB mb wb fv) w w2):=eu (by rw[aB];exact F1.o.drewN k2);clear aB;go_wp2_with fail;refine(CE.o _ H2.o).mono ?_;cases q with
     |error k=>obtain rfl:=J8 hb;rintro e w3⟨f3,rfl,h3⟩;exact⟨rfl,F2.o.trans f3,rfl,h3⟩
     |ok m'=>obtain rfl:=J8 hb;rintro e w3⟨f3,rfl,h3⟩;have F3:=eu (F2.o.trans f3);have H3:=eu h3;clear f3 h3 hb;go_wp2;go_ret;exact⟨F3.o,rfl,H3.o⟩
    .next aj=>
     split at hb
     .cases hb
     .next Eg=>
      obtain⟨q,hq⟩:∃q,m.call n (c-n)=some q:=by
       cases hq:m.call n (c-n)with
       |none=>rw[hq]at hb;cases hb
       |some q=>exact⟨q,rfl⟩
      rw[hq]at hb;obtain⟨d,hd⟩:∃d,c-n=d:=⟨_,rfl⟩;rw[hd]at hq;have pg:IntKind.i64.wrap ((c:Int)-(n:Int))=(d:Int):=by rw[P9 _ (by omega) (by omega)];omega
      have CE:=eu (λ(W:World)(hW:qW W mb wb fv m)=>zve hW hq);clear h hB ha hx hh hl dV;have lq:¬(n:Int)<0:=by omega
      clear hd;go_enter func205,ntmps205;go_wp2_with fail;refine CA.o.mono ?_;rintro e w1⟨rfl,k1,aD⟩;have H1:Hid (qW w1 mb wb fv m):=eu (by rw[aD];exact HH.o.drewN k1);have F1:Hid (Fr (MB mb wb fv) w w1):=eu (by rw[aD];exact(eU _ _).drewN k1);clear aD;go_wp2_with fail;refine(CL.o _ H1.o (HB.o.fr F1.o)).mono ?_;rintro e w2⟨rfl,k2,aB⟩;have H2:Hid (qW w2 mb wb fv m):=eu (by rw[aB];exact H1.o.drewN k2);have F2:Hid (Fr (MB mb wb fv) w w2):=eu (by rw[aB];exact F1.o.drewN k2);clear aB;go_wp2_with fail;refine(CE.o _ H2.o).mono ?_;cases q with
      |error k=>obtain rfl:=J8 hb;rintro e w3⟨f3,rfl,h3⟩;exact⟨rfl,F2.o.trans f3,rfl,h3⟩
      |ok m'=>obtain rfl:=J8 hb;rintro e w3⟨f3,rfl,h3⟩;have F3:=eu (F2.o.trans f3);have H3:=eu h3;clear f3 h3 hb;go_wp2;go_ret;exact⟨F3.o,rfl,H3.o⟩
end Go.Proofs.YtgahgkddaljmkaaGreatDoor
