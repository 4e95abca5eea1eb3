/- Mach26 .. Scan4 -/
import Derived.Test.YtgahgkddaljmkaaGreatDoorV2
import Derived.Lib.RuneCount
import Derived.Test.YtgahgkddaljmkaaGreatDoorV0
set_option maxRecDepth 100000
set_option maxHeartbeats 4000000
namespace Go.Proofs.YtgahgkddaljmkaaGreatDoor
open Tryz Th
section
open Go.RowKit
attribute [local go_sem ↓] Go.wp_at_zero Go.wp_at_succ
def waits (x:Int):Option (Nat × Nat):=if -4000000000<=x/\x<0 then some (((-x-1)%4).toNat,((-x-1)/4).toNat)else none
variable {x:Int}{k:Nat}
theorem zuN{a:Nat}(h:waits x=some (k,a)):x=Mk k a/\k<4/\a<=1000000000:=by
 unfold waits at h;split at h
 .simp only[IA,O2]at h;obtain⟨rfl,rfl⟩:=h;unfold Mk;omega
 .cases h
def l0.MZ (sl:List Nat):Nat->l0->Option (Except Nat l0)
 |0,_=>none
 |g+1,m=>
  if m.s.low+m.s.half<=m.s.top+1 then some (.ok { m with o:={ m.o with next:=-1 } })else
  match m.s.ws[m.s.top+1]? with
  |none=>none
  |some x=>
   match waits x with
   |none=>none
   |some (k,a)=>
    if k=0 then(match m.s.update with|none=>none|some s'=>l0.MZ sl g { m with s:=s' })
    else if k=1 then(match m.s.ws[m.s.top]? with
     |none=>none
     |some v=>(nG.pop { m.s with ws:=m.s.ws.set (m.s.top+1) v } 1).map λs'=>.ok { m with s:=s',o:={ m.o with next:=a } })
    else if k=2 then(match m.NX sl a with
     |none=>none
     |some (.error j)=>some (.error j)
     |some (.ok q)=>if q.1=true then some (.ok q.2)else l0.MZ sl g q.2)
    else none
variable {m:l0}{sl:List Nat}{c:Nat}
theorem zra{m':l0}(h:m.NX sl c=some (.ok (false,m'))):m'.o=m.o:=by
 unfold l0.NX at h;split at h
 .cases h
 .split at h
  .cases h
  .split at h
   .cases h
   .split at h
    .split at h
     .cases h
     .cases h
     .next hx=>cases h;exact zqt hx
    .split at h
     .cases h
     .split at h
      .cases h
      .cases h
      .cases h
variable {wb:Nat}
theorem zsL{tp:Nat}:∀(W:World)(v:Value),(W.setCell ⟨wb,tp+1,none⟩ v).cell? ⟨wb,tp,none⟩=W.cell? ⟨wb,tp,none⟩:=
 λW v=>by apply World.cell?_setCell_other;simp
variable {w:World}{mb:Nat}{fv:Value}{r:Except Nat l0}
theorem zlq{g:Nat}(h:qW w mb wb fv m)(hB:O4 w mb wb fv m.o.pb sl)(hb:l0.MZ sl g m=some r):
  Calls prog 129 #[.pointer (some ⟨mb,0,none⟩)] w λe w'=>Ends w mb wb fv r e w':=by
 have HH:=eu h;have HB:=eu hB;have HR:=eu hb;clear h hB hb;go_enter func129,ntmps129;go_wp2_with fail
 go_loopg [2] g (λgk _ wr=>∃q:l0,qW wr mb wb fv q/\q.o.pb=m.o.pb/\l0.MZ sl gk q=some r/\Fr (MB mb wb fv) w wr)
 case atStart=>exact⟨m,HH.o,rfl,HR.o,eU _ _⟩
 case round=>
  obtain⟨q,hq,iN,hg,ak⟩:=hrel;cases gk with
  |zero=>cases hg
  |succ k=>
   obtain⟨⟨ws,hf,lo,fr,tp⟩,o,fns⟩:=q;rw[l0.MZ]at hg;simp only at hg iN;have hlen:ws.length<=1000000:=hq.sat.len;have tj:tp<=1000000:=hq.sat.top;have o5:lo<=1000000:=hq.sat.low;have Ez:hf<=1000000:=hq.sat.half;have c0:=hq.sat.c0;have c4:=hq.sat.c4;simp only at c0 c4;have CE:=eu (λn:Nat=>Vy (hq.drewN n).sat);simp only[OC]at CE;have HQ:=eu hq;have cY:=eu ak;have lV:=eu iN;have uS:IntKind.i64.wrap ((tp:Int)+1)=(tp:Int)+1:=P9 _ (by omega) (by omega);clear hq ak iN;split at hg
   .next cJ=>
    have r8:¬((tp:Int)+1<(lo:Int)+(hf:Int)):=by omega
    obtain rfl:=J8 hg;clear hg cJ;go_wp2_with fail
    go_quiet ((go_at_call 78;exact qV (CE.o _)))
    have H1:=eu (HQ.o.drewN nq);have F1:=eu (cY.o.drewN nq);generalize wr.drewN nq=w1 at H1 F1;clear c0 c4;have d10:=H1.o.sat.Qy;have df:=H1.o.sat.blk.frozen 10;go_wp2
    first|go_end0|refine Ju rfl rfl ?_
    have f2:Fr (M2 mb wb) w1 (w1.setCell ⟨mb,10,none⟩ (.int .i64 (-1))):=(eU _ _).set _ _ (.inl (.inl rfl));exact⟨F1.o.trans (f2.MD fv),rfl,H1.o.sat.Vw (-1),H1.o.OS.fr f2,H1.o.fl,H1.o.fuel⟩
   .next cJ=>
    have r8:(tp:Int)+1<(lo:Int)+(hf:Int):=by omega
    split at hg
    .cases hg
    .next x hx=>
     split at hg
     .cases hg
     .next k1 a hw=>
      obtain⟨rfl,kj,xh⟩:=zuN hw;have dk:=(Dq.1 hx).1;have CK:=eu (λW:World=>zoV k1 a W kj xh);have CW:=eu (λW:World=>znd k1 a W kj xh);obtain⟨z,hz⟩:∃z,Mk k1 a=z:=⟨_,rfl⟩;rw[hz]at CK CW hx;have cx:wr.cell? ⟨wb,tp+1,none⟩=some (.int .i64 z):=HQ.o.sat.word hx;have aA:(tp:Int)+1<(ws.length:Int):=by omega
      have kf:(0:Int)<=(tp:Int)+1:=by omega
      have HX:=eu hx;clear hw hz cJ hx;go_wp2_with fail
      go_quiet ((go_at_call 78;exact qV (CE.o _)))
      have H1:=eu (HQ.o.drewN nq);have F1:=eu (cY.o.drewN nq);generalize wr.drewN nq=w1 at H1 F1;clear c0 c4 cx;have c0:=H1.o.sat.c0;have c4:=H1.o.sat.c4;have cx:w1.cell? ⟨wb,tp+1,none⟩=some (.int .i64 z):=H1.o.sat.word HX.o;simp only at c0 c4;go_wp2_with fail
      go_quiet (fail)
      have H2:=eu (H1.o.drewN nq);have F2:=eu (F1.o.drewN nq);generalize w1.drewN nq=w2 at H2 F2;clear c0 c4 cx;go_wp2_with fail;refine(CK.o _).mono ?_;rintro e w3⟨rfl,bL⟩;subst w3;split at hg
      .next hk=>
       subst hk;split at hg
       .cases hg
       .next s' hu=>
        have HU:=eu hu;have HG:=eu hg;clear hu hg;go_wp2_with fail;refine(zsh H2.o.sat HU.o).mono ?_;rintro e w4⟨rfl,h4,f4⟩;have H4:=eu h4;have F4:=eu f4;clear h4 f4;go_wp2
        go_roundg k
        case measure=>omega
        case rel=>exact⟨_,H2.o.O6 H4.o F4.o,lV.o,HG.o,F2.o.trans (F4.o.MD fv)⟩
      .next dF=>
       split at hg
       .next hk=>
        subst hk;split at hg
        .cases hg
        .next v hv=>
         simp only[M9]at hg;obtain⟨s',jt,rfl⟩:=hg;have kE:=eu jt;have c0:=H2.o.sat.c0;have c4:=H2.o.sat.c4;have cv:w2.cell? ⟨wb,tp,none⟩=some (.int .i64 v):=H2.o.sat.word hv;have cx:w2.cell? ⟨wb,tp+1,none⟩=some (.int .i64 z):=H2.o.sat.word HX.o;have cf:=H2.o.sat.MX.frozen (tp+1);have fP:=QU H2.o.sat.ne;have sM:=zsL (wb:=wb) (tp:=tp);have dJ:=(Dq.1 hv).1;have bD:(tp:Int)<(ws.length:Int):=by omega
         simp only at c0 c4;clear jt hv;go_wp2_with fail
         go_region_held3 (λW=>W.cell? ⟨mb,0,none⟩=some (.slice (some ⟨wb,0,none⟩) ws.length ws.length)/\W.cell? ⟨mb,4,none⟩=some (.int .i64 tp)/\W.cell? ⟨wb,tp,none⟩=some (.int .i64 v)) (first|go_keep|(refine⟨?_,?_,?_⟩<;>first|assumption|(rw[fP];assumption)|(rw[sM];assumption))) (fail)
         all_goals
          have H5:=eu (H2.o.sat.QC (tp+1) v).drew;have F5:Hid (Fr (M2 mb wb) w2 ((w2.setCell ⟨wb,tp+1,none⟩ (.int .i64 v)).drew)):=eu ((eU _ _).set _ _ (.inl (.inr rfl))).drew;generalize(w2.setCell ⟨wb,tp+1,none⟩ (.int .i64 v)).drew=w5 at H5 F5;clear c0 c4 cv cx cf fP sM;go_wp2_with fail;refine(Kj H5.o kE.o).mono ?_;rintro e w6⟨rfl,h6,f6⟩;have H6:=eu h6;have F6:=eu (F5.o.trans f6);clear h6 f6;go_wp2_with fail;refine(CW.o _).mono ?_;rintro e w7⟨rfl,og⟩;subst w7;have d10:=H6.o.Qy;have df:=H6.o.blk.frozen 10;go_wp2
          first|go_end0|refine Ju rfl rfl ?_
          have f7:Fr (M2 mb wb) w2 (w6.setCell ⟨mb,10,none⟩ (.int .i64 a)):=F6.o.set _ _ (.inl (.inl rfl));exact⟨F2.o.trans (f7.MD fv),rfl,H6.o.Vw a,H2.o.OS.fr f7,H2.o.fl,H2.o.fuel⟩
       .next cK=>
        split at hg
        .next hk=>
         subst hk;have iN:=lV.o;obtain⟨d,hd⟩:∃d,(⟨⟨ws,hf,lo,fr,tp⟩,o,fns⟩:l0).NX sl a=some d:=by
          cases hd:(⟨⟨ws,hf,lo,fr,tp⟩,o,fns⟩:l0).NX sl a with
          |none=>rw[hd]at hg;cases hg
          |some d=>exact⟨d,rfl⟩
         rw[hd]at hg;have gA:Hid (O4 w2 mb wb fv o.pb sl):=eu (by rw[iN];exact HB.o.fr F2.o);have CP:=eu (zsv H2.o gA.o hd xh);have HD:=eu hd;clear hd iN;go_wp2_with fail;refine(CW.o _).mono ?_;rintro e w3⟨rfl,bL⟩;subst w3;go_wp2_with fail;refine CP.o.mono ?_;cases d with
         |error j=>obtain rfl:=J8 hg;rintro e w4⟨f4,rfl,h4⟩;exact⟨rfl,F2.o.trans f4,rfl,h4⟩
         |ok q=>
          obtain⟨b,m'⟩:=q;rintro e w4⟨f4,rfl,h4⟩;have F4:=eu (F2.o.trans f4);have H4:=eu h4;clear f4 h4;cases b with
          |true=>
           obtain rfl:=J8 hg;go_wp2
           first|go_end0|refine Ju rfl rfl ?_
           exact⟨F4.o,rfl,H4.o⟩
          |false=>
           have HG:Hid (l0.MZ sl k m'=some r):=eu (by simpa using hg);have HO:=eu (zra HD.o);clear hg;go_wp2
           go_roundg k
           case measure=>omega
           case rel=>exact⟨_,H4.o,by rw[HO.o];exact lV.o,HG.o,F4.o⟩
        .cases hg
def l0.ztg (m:l0):Nat:=m.s.low+m.s.half+1-m.s.top
def l0.Sx (m:l0) (sl:List Nat) (a:Nat):Option (Except Nat l0):=
 match m.s.head a with
 |none=>none
 |some y=>if y%16=3 then some (.error 5)else
  match m.s.Qo sl a with
  |none=>none
  |some l=>if l=0 then m.Qn else l0.MZ sl m.ztg m
def l0.enter (m:l0) (sl:List Nat):Option (Except Nat l0):=
 match m.s.nodeAt 0 with
 |none=>none
 |some (a,y)=>if y%16=4 then(if m.s.ws.length<m.s.top then none else l0.Sx { m with s:={ m.s with ws:=m.s.ws.set m.s.top (y/65536) } } sl (y/65536).toNat)else m.Sx sl a
theorem znM(h:qW w mb wb fv m)(hB:O4 w mb wb fv m.o.pb sl)(hb:m.enter sl=some r):
  Calls prog 77 #[.pointer (some ⟨mb,0,none⟩)] w λe w'=>Ends w mb wb fv r e w':=by
 unfold l0.enter at hb;split at hb
 .cases hb
 rename_i a y ha;obtain⟨hx,hh⟩:=Iu ha;obtain⟨hy,aT,bE,aU⟩:=xW hh;have CA:=eu (P6 (d:=0) h.sat _ hx);have CK:=eu (λW:World=>QM y W aT bE);have HH:=eu h;have HB:=eu hB;have HY:=eu hy;have eo:(a:Int)<(m.s.ws.length:Int):=by omega
 have hlen:m.s.ws.length<=1000000:=h.sat.len;split at hb
 focus
  rename_i hk;split at hb
  .cases hb
  rename_i aj;have CW:=eu (λW:World=>RL y W aT bE);rw[hk]at CK;obtain⟨b,iC⟩:∃b:Nat,y/65536=b:=⟨(y/65536).toNat,by omega⟩;rw[iC]at CW hb;rw[MO]at hb;have cu:=(Dq.1 hx).1;have Fc:(m.s.top:Int)<(m.s.ws.length:Int):=by omega
  have Dc:Hid (m.s.ws[m.s.top]?=some (a:Int)):=eu hx;clear h hB ha hx hh hy aU aT bE hk iC;go_enter func77,ntmps77;go_wp2_with fail;refine CA.o.mono ?_;rintro e w1⟨rfl,k1,aD⟩;have H1:Hid (qW w1 mb wb fv m):=eu (by rw[aD];exact HH.o.drewN k1);have F1:Hid (Fr (MB mb wb fv) w w1):=eu (by rw[aD];exact(eU _ _).drewN k1);clear aD;have c0:=H1.o.sat.c0;have cy:=H1.o.sat.word HY.o;go_wp2_with fail;refine(CK.o _).mono ?_;rintro e w2⟨rfl,aB⟩;subst w2;go_wp2_with fail;refine(CW.o _).mono ?_;rintro e w2⟨rfl,aB⟩;subst w2;clear cy;have c4:=H1.o.sat.c4;have ct:=H1.o.sat.word Dc.o;have cf:=H1.o.sat.MX.frozen m.s.top;have fP:=QU H1.o.sat.ne;go_wp2_with fail
  go_region_held3 (λW=>W.cell? ⟨mb,0,none⟩=some (.slice (some ⟨wb,0,none⟩) m.s.ws.length m.s.ws.length)/\W.cell? ⟨mb,4,none⟩=some (.int .i64 m.s.top)) (go_keep) (fail)
  all_goals
   have H5:=eu (H1.o.sat.QC m.s.top b).drew;have F5:Hid (Fr (M2 mb wb) w1 ((w1.setCell ⟨wb,m.s.top,none⟩ (.int .i64 b)).drew)):=eu ((eU _ _).set _ _ (.inl (.inr rfl))).drew;generalize(w1.setCell ⟨wb,m.s.top,none⟩ (.int .i64 b)).drew=w3 at H5 F5;have H3:=eu (H1.o.O6 H5.o F5.o);have F3:=eu (F1.o.trans (F5.o.MD fv));clear c0 c4 ct cf fP H5 F5;have pD:=HB;obtain⟨m2,jo⟩:∃m2:l0,({ m with s:={ m.s with ws:=m.s.ws.set m.s.top (b:Int) } }:l0)=m2:=⟨_,rfl⟩;have jb:m2.o=m.o:=by rw[<-jo]
   rw[<-jb]at pD;rw[jo]at hb H3;clear jo jb
 rotate_right
 focus
  rename_i hk;have kj:(y%16 == 4)=false:=by rw[kJ];exact hk
  generalize y%16=ky at CK kj hk;clear h hB ha hx hh hy aU aT bE hk;go_enter func77,ntmps77;go_wp2_with fail;refine CA.o.mono ?_;rintro e w1⟨rfl,k1,aD⟩;have H1:Hid (qW w1 mb wb fv m):=eu (by rw[aD];exact HH.o.drewN k1);have F1:Hid (Fr (MB mb wb fv) w w1):=eu (by rw[aD];exact(eU _ _).drewN k1);clear aD;have c0:=H1.o.sat.c0;have cy:=H1.o.sat.word HY.o;go_wp2_with fail;refine(CK.o _).mono ?_;rintro e w2⟨rfl,aB⟩;subst w2;clear c0 cy;have pD:=HB;have H3:=H1;have F3:=F1;generalize m=m2 at hb pD H3;generalize a=b at hb
 all_goals
  unfold l0.Sx at hb;split at hb
  .cases hb
  .next z hz=>
   obtain⟨tH,bq,aP,pr⟩:=xW hz;have ml:=eu (λW:World=>QM z W bq aP);have yp:(b:Int)<((m2).s.ws.length:Int):=by omega
   have HZ:=eu tH;clear hz tH bq aP pr;split at hb
   .next dz=>
    obtain rfl:=J8 hb;rw[dz]at ml;clear hb dz;go_wp2_with fail
    go_loopg [33] ((m2).o.fuel+1) (λgk _ wr=>∃q:l0,qW wr mb wb fv q/\q.s=(m2).s/\q.o.fuel+1=gk/\Fr (MB mb wb fv) w wr)
    case atStart=>exact⟨m2,H3.o,rfl,rfl,F3.o⟩
    case round=>
     obtain⟨q,hq,hs,hg,ak⟩:=hrel;have c0:=hq.sat.c0;rw[hs]at c0;have cz:=hq.sat.word (by rw[hs];exact HZ.o);have HQ:=eu hq;have HS:=eu hs;have HG:=eu hg;have cY:=eu ak;clear hq hs hg ak;go_wp2_with fail;refine(ml.o _).mono ?_;rintro e w5⟨rfl,dK⟩;subst w5;clear c0 cz;go_wp2_with fail;refine(zl7 HQ.o).mono ?_;unfold l0.SM;split
     .rintro e w6⟨f6,rfl,h6⟩;exact⟨rfl,cY.o.trans f6,rfl,h6⟩
     .next aH=>
      have uf:=eu aH;clear aH;rintro e w6⟨f6,rfl,h6⟩;have H6:=eu h6;have F6:=eu (cY.o.trans f6);clear f6 h6;go_wp2
      go_roundg (gk-1)
      case measure=>have:=HG.o;omega
      case rel=>exact⟨_,H6.o,HS.o,by have:=HG.o;have:=uf.o;simp only;omega,F6.o⟩
   .next dz=>
    have lj:(z%16 == 3)=false:=by rw[kJ];exact dz
    generalize z%16=kz at ml lj dz;split at hb
    .cases hb
    .next l hl=>
     have CL:=eu (λ(W:World)(hW:qW W mb wb fv (m2))(rM:O4 W mb wb fv (m2).o.pb sl)=>zjp hW rM hl);clear hl;go_wp2_with fail
     go_loopg [33] 1 (λ_ _ wr=>qW wr mb wb fv (m2)/\Fr (MB mb wb fv) w wr)
     case atStart=>exact⟨H3.o,F3.o⟩
     case round=>
      obtain⟨hq,ak⟩:=hrel;have c0:=hq.sat.c0;have cz:=hq.sat.word HZ.o;have HQ:=eu hq;have cY:=eu ak;clear hq ak;go_wp2_with fail;refine(ml.o _).mono ?_;rintro e w5⟨rfl,dK⟩;subst w5;clear c0 cz;go_wp2_with fail;refine(CL.o _ HQ.o (pD.o.fr cY.o)).mono ?_;rintro e w6⟨rfl,k6,oe⟩;have H6:Hid (qW w6 mb wb fv (m2)):=eu (by rw[oe];exact HQ.o.drewN k6);have F6:Hid (Fr (MB mb wb fv) w w6):=eu (by rw[oe];exact cY.o.drewN k6);clear oe;split at hb;rename_i da;subst da;have CB:=eu (zns H6.o hb)
      rotate_left
      rename_i da;have xG:(l == 0)=false:=by rw[kJ];exact da
      have CB:=eu (zlq H6.o (pD.o.fr F6.o) hb)
      all_goals
       clear hb;go_wp2_with fail;refine CB.o.mono ?_;cases r with
       |error j=>rintro e w7⟨f7,rfl,h7⟩;exact⟨rfl,F6.o.trans f7,rfl,h7⟩
       |ok m'=>
        rintro e w7⟨f7,rfl,h7⟩;have H7:=eu h7;have F7:=eu (F6.o.trans f7);clear f7 h7;go_wp2
        first|go_end0|refine Ju rfl rfl ?_
        exact⟨F7.o,rfl,H7.o⟩
def TP (t c b:Nat):Value:=.agg #[.int .i64 t,.int .i64 c,.int .i64 b]
theorem qW.Su(h:qW w mb wb fv m)(hk:w.heap.size<=k:=by omega):¬MB mb wb fv k:=by
 rintro(h1|h1|h1)
 .have:=h.sat.blk.lt;omega
 .have:=h.sat.MX.lt;omega
 .rcases h.OS with⟨h2,_⟩|⟨fb,cap,sp,h2,h3⟩
  .rw[h2]at h1;cases h1
  .rw[h2]at h1;have:=h3.1.1.lt;have h4:fb=k:=by simpa[Value.ownBlock]using h1
   omega
def l0.Ze (m:l0) (b:Nat):Option l0:=
 match m.s.nodeAt 0 with
 |none=>none
 |some (a,y)=>
  match m.s.pop 1 with
  |none=>none
  |some s2=>if s2.ws.length<a+1+MA y then none else
   match s2.UH (s2.words (a+1) (MA y))with
   |none=>none
   |some s3=>some { m with s:=s3,o:={ m.o with next:=b } }
def l0.split (m:l0) (c b:Nat):Option (Except Nat l0):=
 match m.s.nodeAt 0 with
 |none=>none
 |some (_,y)=>if c=MA y then Nj (m.M8 c) λm1=>(m1.Ze b).map .ok else some (.error 3)
variable {s s':nG}
theorem zyt(h:s.pop c=some s'):s'.ws=s.ws:=by
 unfold nG.pop at h;split at h
 .obtain rfl:=J8 h;rfl
 .cases h
variable {t b:Nat}
theorem zuv(h:qW w mb wb fv m)(hb:m.split c b=some r):
  Calls prog 209 #[.pointer (some ⟨mb,0,none⟩),TP t c b] w λe w'=>Ends w mb wb fv r e w':=by
 unfold l0.split at hb;split at hb
 .cases hb
 .next a y ha=>
  obtain⟨hx,hh⟩:=Iu ha;obtain⟨hy,aT,bE,aU⟩:=xW hh;have h1:=h.alloc (.cells #[.int .i64 t,.int .i64 c,.int .i64 b] 290);have hB:=gH w [.int .i64 t,.int .i64 c,.int .i64 b] 290;have f1:Fr (MB mb wb fv) w (w.alloc (.cells #[.int .i64 t,.int .i64 c,.int .i64 b] 290)):=(eU _ _).alloc _;have bu:¬MB mb wb fv w.heap.size:=h.Su (qP _);have CC:=eu (λW:World=>Sq y W aT bE);rw[YF aT]at CC;have aN:=Vo y;have eo:(a:Int)<(m.s.ws.length:Int):=by omega
  have CA:=eu (λ(W:World)(hW:qW W mb wb fv m)(n:Nat)=>P6 (d:=0) (hW.drewN n).sat _ hx);have HH:=eu h;have H1:=eu h1;have B1:=eu hB;have F1:=eu f1;have HY:=eu hy;have bW:=eu bu;clear h ha hx hy hh aT bE aU h1 hB f1 bu;go_enter func209,ntmps209;unfold TP;go_wp2_with fail;generalize w.alloc (.cells #[.int .i64 t,.int .i64 c,.int .i64 b] 290)=w1 at H1 F1 B1|-;have c0:=H1.o.sat.c0;have cy:=H1.o.sat.word HY.o;generalize MA y=k at *
  go_quiet ((first|(go_at_call 82;exact qV (CA.o _ H1.o _))|(go_at_call 85;exact qQ (CC.o _))))
  have H2:=eu (H1.o.drewN nq);have F2:=eu (F1.o.drewN nq);have B2:=eu ((gd (K:=MB mb wb fv) B1.o ((eU _ _).drewN nq) bW.o));generalize w1.drewN nq=w2 at H2 F2 B2;clear c0 cy;have q1:=al B2.o 1;simp at q1;split at hb
  .next rW=>
   subst rW;unfold Nj at hb;split at hb
   .cases hb
   .next k2 hn=>obtain rfl:=J8 hb;have CN:=eu (Pd H2.o hn);clear hn hb;go_wp2_with fail;refine CN.o.mono ?_;rintro e w3⟨f3,rfl,h3⟩;exact⟨rfl,F2.o.trans f3,rfl,h3⟩
   .next m1 hn=>
    simp only[M9]at hb;obtain⟨m2,h2,rfl⟩:=hb;unfold l0.Ze at h2;split at h2
    .cases h2
    .next a1 y1 gm=>
     split at h2
     .cases h2
     .next s2 jt=>
      split at h2
      .cases h2
      .next aJ=>
       split at h2
       .cases h2
       .next s3 js=>
        obtain rfl:=J8 h2;obtain⟨ee,sq⟩:=Iu gm;obtain⟨hz,bq,aP,oR⟩:=xW sq;have xX:=zyt jt;have CN:=eu (Pd H2.o hn);have eR:=eu ee;have HZ:=eu (kK hz (kK bq (kK aP (show a1+1+MA y1<=m1.s.ws.length by rw[<-xX];omega))));have fZ:Hid (a1+1+MA y1<=s2.ws.length):=eu (by omega);have kE:=eu jt;have oB:=eu js;have Ga:=eu xX;have Ek:=Vo y1;clear gm jt js ee sq hz bq aP oR hn h2 aJ xX;go_wp2_with fail;refine CN.o.mono ?_;rintro e w3⟨f3,rfl,h3⟩;have H3:=eu h3;have F3:=eu (F2.o.trans f3);have B3:=eu (gd B2.o f3 bW.o);clear h3 f3 q1;have Bm:=eu (λn:Nat=>P6 (d:=0) (H3.o.drewN n).sat _ eR.o);have CF:=eu (λn:Nat=>Vg (H3.o.drewN n).sat a1 y1 HZ.o.1 HZ.o.2.1 HZ.o.2.2.1 HZ.o.2.2.2);go_wp2_with fail
        go_quiet ((first|(go_at_call 82;exact qV (Bm.o _))|(go_at_call 135;exact qV (CF.o _))))
        have H4:=eu (H3.o.drewN nq);have F4:=eu (F3.o.drewN nq);have B4:=eu ((gd (K:=MB mb wb fv) B3.o ((eU _ _).drewN nq) bW.o));generalize w3.drewN nq=w4 at H4 F4 B4;go_wp2_with fail;refine(Kj H4.o.sat kE.o).mono ?_;rintro e w5⟨rfl,h5,f5⟩;have H5:=eu h5;have F5:=eu f5;clear h5 f5;go_wp2_with fail;refine(nG.zel H5.o oB.o rfl fZ.o (λh0=>QQ (by have:=HZ.o.2.2.2;omega))).mono ?_;rintro e w6⟨rfl,h6,f6⟩;have H6:=eu h6;have F6:=eu (F5.o.trans f6);clear h6 f6;have B6:=eu (gd B4.o (F6.o.MD fv) bW.o);have q2:=al B6.o 2;simp at q2;have d10:=H6.o.Qy;have df:=H6.o.blk.frozen 10;go_wp2
        first|go_end0|refine Ju rfl rfl ?_
        have f7:Fr (M2 mb wb) w4 (w6.setCell ⟨mb,10,none⟩ (.int .i64 b)):=F6.o.set _ _ (.inl (.inl rfl));exact⟨F4.o.trans (f7.MD fv),rfl,H6.o.Vw b,H4.o.OS.fr f7,H4.o.fl,H4.o.fuel⟩
  .next rW=>
   obtain rfl:=J8 hb;have aH:(c:Int)≠(k:Int):=by omega
   have jq:((c:Int) == (k:Int))=false:=by rw[kJ];exact aH
   have EW:((c:Int) != (k:Int))=true:=by rw[bne,jq];rfl
   clear hb rW;go_wp2_with fail;refine(Tm 3 _).mono ?_;rintro e w3⟨rfl,bL⟩;subst w3;exact⟨rfl,F2.o,rfl,_,H2.o⟩
def SD (w:World) (mb wb:Nat) (fv av:Value) (nA:List (Nat × Nat × Nat)):Prop:=
 ∃ab cap,av=.slice (some ⟨ab,0,none⟩) nA.length cap/\ab<w.heap.size/\¬MB mb wb fv ab/\nA.length<=1000000 /\
  ∀(i t c b:Nat),nA[i]?=some (t,c,b)->w.cell? ⟨ab,i*3,none⟩=some (.int .i64 t)/\w.cell? ⟨ab,i*3+1,none⟩=some (.int .i64 c)/\w.cell? ⟨ab,i*3+2,none⟩=some (.int .i64 b)
variable {av:Value}{nA:List (Nat × Nat × Nat)}
theorem SD.fr{w':World}(h:SD w mb wb fv av nA)(f:Fr (MB mb wb fv) w w'):SD w' mb wb fv av nA:=by
 obtain⟨ab,cap,h1,h2,h3,hl,h4⟩:=h;refine⟨ab,cap,h1,Kl h2 f.size,h3,hl,λi t c b hi=>?_⟩;have e:∀j,w'.cell? ⟨ab,j,none⟩=w.cell? ⟨ab,j,none⟩:=λj=>kI (w:=w) (f.block ab h2 h3)
 rw[e,e,e];exact h4 i t c b hi
def l0.OX (m:l0) (y:Int):List (Nat × Nat × Nat)->Option (Except Nat l0)
 |[]=>some (.error 3)
 |(t,c,b)::l=>if(t:Int)=y/65536 then m.split c b else l0.OX m y l
def l0.choose (m:l0) (nA:List (Nat × Nat × Nat)):Option (Except Nat l0):=
 match m.s.nodeAt 0 with
 |none=>none
 |some (_,y)=>if y%16=1 then m.OX y nA else some (.error 3)
theorem zrf(h:qW w mb wb fv m)(hA:SD w mb wb fv av nA)(hb:m.choose nA=some r):
  Calls prog 142 #[.pointer (some ⟨mb,0,none⟩),av] w λe w'=>Ends w mb wb fv r e w':=by
 have HA:=eu hA;obtain⟨ab,cap,rfl,_,_,xI,_⟩:=hA;unfold l0.choose at hb;split at hb
 .cases hb
 .next a y ha=>
  obtain⟨hx,hh⟩:=Iu ha;obtain⟨hy,aT,bE,aU⟩:=xW hh;have CK:=eu (λW:World=>QM y W aT bE);have CW:=eu (λW:World=>RL y W aT bE);have eo:(a:Int)<(m.s.ws.length:Int):=by omega
  have CA:=eu (λ(n:Nat)=>P6 (d:=0) (h.drewN n).sat _ hx);have c0:=h.sat.c0;have cy:=h.sat.word hy;have HH:=eu h;have HY:=eu hy;clear h ha hx hy hh aT bE aU;go_enter func142,ntmps142;go_wp2_with fail
  go_quiet ((go_at_call 82;exact qV (CA.o _)))
  have H2:=eu (HH.o.drewN nq);have F2:Hid (Fr (MB mb wb fv) w (w.drewN nq)):=eu ((eU _ _).drewN nq);generalize w.drewN nq=w2 at H2 F2;clear c0 cy;go_wp2_with fail;refine(CK.o _).mono ?_;rintro e w3⟨rfl,bL⟩;subst w3;split at hb
  .next hk=>
   have HR:=eu hb;have HE:Hid (y/65536=y/65536):=eu rfl;rw[hk];clear hb hk CK;go_wp2_with fail
   go_loopg [24] nA.length (λgk iv wr=>∃i:Nat,iv=.int .i64 i/\i+gk=nA.length/\qW wr mb wb fv m/\m.OX y (nA.drop i)=some r/\Fr (MB mb wb fv) w wr)
   case atStart=>exact⟨0,rfl,by omega,H2.o,by rw[Sb];exact HR.o,F2.o⟩
   case round=>
    obtain⟨i,rfl,hi,hq,hc,ak⟩:=hrel;have HQ:=eu hq;have cY:=eu ak;clear hq ak;cases gk with
    |zero=>
     have nP:¬(i:Int)<(nA.length:Int):=by omega
     rw[XC (by omega)]at hc;obtain rfl:=J8 hc;go_wp2_with fail;refine(Tm 3 _).mono ?_;rintro e w3⟨rfl,bL⟩;subst w3;exact⟨rfl,cY.o,rfl,_,HQ.o⟩
    |succ g=>
     have br:i<nA.length:=by omega
     have nP:(i:Int)<(nA.length:Int):=by omega
     have dt:(0:Int)<=(i:Int):=by omega
     obtain⟨t,c,b,rP⟩:∃t c b,nA[i]?=some (t,c,b):=⟨_,_,_,Iv br⟩;rw[Q2 br,show nA[i]=(t,c,b)from(Dq.1 rP).2,l0.OX]at hc;obtain⟨Dv,dU,he,_,_,_,dA⟩:=HA.o.fr cY.o;obtain⟨rfl,rfl⟩:ab=Dv/\cap=dU:=by simpa using he
     obtain⟨k0,k1,k2⟩:=dA i t c b rP;clear dA he;go_wp2_with fail;have H4:=eu (HQ.o.alloc (.cells #[.int .i64 t,.int .i64 c,.int .i64 b] 290));have B4:=eu (gH wr [.int .i64 t,.int .i64 c,.int .i64 b] 290);have F4:Hid (Fr (MB mb wb fv) w (wr.alloc (.cells #[.int .i64 t,.int .i64 c,.int .i64 b] 290))):=eu (cY.o.alloc _);generalize wr.alloc (.cells #[.int .i64 t,.int .i64 c,.int .i64 b] 290)=w4 at H4 B4 F4|-;clear k0 k1 k2;have q0:=al B4.o 0;simp at q0;have ic:=hc;generalize AX:y/65536=wy at CW ic
     go_quiet ((go_at_call 84;exact qQ (CW.o _)))
     have H5:=eu (H4.o.drewN nq);have F5:=eu (F4.o.drewN nq);have B5:Hid (oH (w4.drewN nq) wr.heap.size [.int .i64 t,.int .i64 c,.int .i64 b] 290):=eu B4.o;generalize w4.drewN nq=w5 at H5 F5 B5;clear q0;have q0:=al B5.o 0;have q1:=al B5.o 1;have q2:=al B5.o 2;simp at q0 q1 q2;split at ic
     .next ng=>
      have HS:=eu ic;have tj:((t:Int) == wy)=true:=by rw[uq];exact ng
      clear ic hc AX ng;go_wp2_with fail;have SA:=zuv (t:=t) H5.o HS.o;unfold TP at SA;refine SA.mono ?_;cases r with
      |error j=>rintro e w7⟨f7,rfl,h7⟩;exact⟨rfl,F5.o.trans f7,rfl,h7⟩
      |ok m'=>
       rintro e w7⟨f7,rfl,h7⟩;have H7:=eu h7;have F7:=eu (F5.o.trans f7);clear f7 h7 q0 q1 q2;go_wp2
       first|go_end0|refine Ju rfl rfl ?_
       exact⟨F7.o,rfl,H7.o⟩
     .next ng=>
      have tj:((t:Int) == wy)=false:=by rw[kJ];exact ng
      have HS:Hid (m.OX y (nA.drop (i+1))=some r):=eu ic;clear ic hc AX q0 q1 q2;go_wp2
      go_roundg g
      case measure=>omega
      case rel=>exact⟨i+1,by go_num,by omega,H5.o,HS.o,F5.o⟩
  .next hk=>
   obtain rfl:=J8 hb;have lj:(y%16 == 1)=false:=by rw[kJ];exact hk
   have xE:(y%16 != 1)=true:=by rw[bne,lj];rfl
   generalize y%16=ky at hk lj xE|-;clear hb CK;go_wp2_with fail;refine(Tm 3 _).mono ?_;rintro e w3⟨rfl,bL⟩;subst w3;exact⟨rfl,F2.o,rfl,_,H2.o⟩
end
section
open Go.RowKit
abbrev PX (a b:TypeId):Prop:=∀(x:Value)(w:World),(Instr.typeAssert (.iface a x) 154 b true).run prog w=.ok (.tuple #[x,.bool true]) w
abbrev TNi (a b:TypeId) (v:Value):Prop:=∀(x:Value)(w:World),(Instr.typeAssert (.iface a x) 154 b true).run prog w=.ok (.tuple #[v,.bool false]) w
def PF (a:TypeId):List (TypeId × Value)->Prop
 |[]=>True
 |(b,v)::l=>TNi a b v/\PF a l
def il:List (TypeId × Value):=[(248,.agg #[.int .i64 0]),(250,.agg #[.int .i64 0]),(252,.agg #[.int .i64 0]),(254,.agg #[.int .i64 0,.int .i64 0]),(257,.agg #[.int .i64 0,.int .i64 0]),(258,.agg #[.int .i64 0,.int .i64 0]),(260,.agg #[.int .i64 0,.int .i64 0]),(263,.agg #[.int .i64 0]),(267,.agg #[.int .i64 0]),(268,.agg #[.int .i64 0]),(269,.agg #[]),(272,.agg #[.string ⟨#[]⟩]),(185,.agg #[]),(273,.agg #[.int .i64 0])]
theorem zHh:PX 248 248/\PF 248 (il.take 0):=⟨λ_ _=>by kernel_rfl,by repeat' (first|exact trivial|refine kK (λ_ _=>by kernel_rfl) ?_)⟩
theorem zGZ:PX 250 250/\PF 250 (il.take 1):=⟨λ_ _=>by kernel_rfl,by repeat' (first|exact trivial|refine kK (λ_ _=>by kernel_rfl) ?_)⟩
theorem zG4:PX 252 252/\PF 252 (il.take 2):=⟨λ_ _=>by kernel_rfl,by repeat' (first|exact trivial|refine kK (λ_ _=>by kernel_rfl) ?_)⟩
theorem zHg:PX 254 254/\PF 254 (il.take 3):=⟨λ_ _=>by kernel_rfl,by repeat' (first|exact trivial|refine kK (λ_ _=>by kernel_rfl) ?_)⟩
theorem zHb:PX 257 257/\PF 257 (il.take 4):=⟨λ_ _=>by kernel_rfl,by repeat' (first|exact trivial|refine kK (λ_ _=>by kernel_rfl) ?_)⟩
theorem zG9:PX 258 258/\PF 258 (il.take 5):=⟨λ_ _=>by kernel_rfl,by repeat' (first|exact trivial|refine kK (λ_ _=>by kernel_rfl) ?_)⟩
theorem zHe:PX 260 260/\PF 260 (il.take 6):=⟨λ_ _=>by kernel_rfl,by repeat' (first|exact trivial|refine kK (λ_ _=>by kernel_rfl) ?_)⟩
theorem zHi:PX 263 263/\PF 263 (il.take 7):=⟨λ_ _=>by kernel_rfl,by repeat' (first|exact trivial|refine kK (λ_ _=>by kernel_rfl) ?_)⟩
theorem zG0:PX 267 267/\PF 267 (il.take 8):=⟨λ_ _=>by kernel_rfl,by repeat' (first|exact trivial|refine kK (λ_ _=>by kernel_rfl) ?_)⟩
theorem zHd:PX 268 268/\PF 268 (il.take 9):=⟨λ_ _=>by kernel_rfl,by repeat' (first|exact trivial|refine kK (λ_ _=>by kernel_rfl) ?_)⟩
theorem zG3:PX 269 269/\PF 269 (il.take 10):=⟨λ_ _=>by kernel_rfl,by repeat' (first|exact trivial|refine kK (λ_ _=>by kernel_rfl) ?_)⟩
theorem zG8:PX 272 272/\PF 272 (il.take 11):=⟨λ_ _=>by kernel_rfl,by repeat' (first|exact trivial|refine kK (λ_ _=>by kernel_rfl) ?_)⟩
theorem zHc:PX 185 185/\PF 185 (il.take 12):=⟨λ_ _=>by kernel_rfl,by repeat' (first|exact trivial|refine kK (λ_ _=>by kernel_rfl) ?_)⟩
theorem zHf:PX 273 273/\PF 273 (il.take 13):=⟨λ_ _=>by kernel_rfl,by repeat' (first|exact trivial|refine kK (λ_ _=>by kernel_rfl) ?_)⟩
theorem zHa:PX 276 276/\PF 276 (il.take 14):=⟨λ_ _=>by kernel_rfl,by repeat' (first|exact trivial|refine kK (λ_ _=>by kernel_rfl) ?_)⟩
variable {w:World}{mb wb:Nat}{fv:Value}{m:l0}
theorem qW.pre(h:qW w mb wb fv m)(l:List Value)(ty:TypeId):Hid (qW (w.alloc (.cells l.toArray ty)) mb wb fv m)/\Hid (oH (w.alloc (.cells l.toArray ty)) w.heap.size l ty)/\Hid (Fr (MB mb wb fv) w (w.alloc (.cells l.toArray ty)))/\Hid (¬MB mb wb fv w.heap.size):=
 ⟨eu (h.alloc _),eu (gH w l ty),eu ((eU _ _).alloc _),eu (h.Su (qP _))⟩
end
section
open Go.RowKit
attribute [local go_sem ↓] Go.wp_at_zero Go.wp_at_succ
variable {w:World}{mb wb:Nat}{fv:Value}{m:l0}{r:Except Nat l0}
theorem zjX{v:Int}(h:qW w mb wb fv m)(hb:m.N5 v=some r):
  Calls prog 81 #[.pointer (some ⟨mb,0,none⟩),.iface 252 (.agg #[.int .i64 v])] w λe w'=>Ends w mb wb fv r e w':=by
 obtain⟨i2,i0,i1,-⟩:=zG4;obtain⟨H1,B1,F1,bW⟩:=h.pre [.int .i64 v] 252;clear h;go_enter func81,ntmps81;go_wp2_with fail;generalize w.alloc (.cells #[.int .i64 v] 252)=w1 at H1 F1 B1|-;clear i0 i1 i2;have CX:=eu (zb1 H1.o hb);refine CX.o.mono ?_;cases r with
 |error j=>rintro e w7⟨f7,rfl,h7⟩;exact⟨rfl,F1.o.trans f7,rfl,h7⟩
 |ok m'=>
  rintro e w7⟨f7,rfl,h7⟩;have H7:=eu h7;have F7:=eu (F1.o.trans f7);clear f7 h7;go_wp2
  first|go_end0|refine Ju rfl rfl ?_
  exact⟨F7.o,rfl,H7.o⟩
variable {c:Nat}
theorem zr5{m2:l0}(h:qW w mb wb fv m)(hb:m.NG c=some m2)(hr:r=.ok m2):
  Calls prog 81 #[.pointer (some ⟨mb,0,none⟩),.iface 268 (.agg #[.int .i64 c])] w λe w'=>Ends w mb wb fv r e w':=by
 obtain⟨i9,i0,i1,i2,i3,i4,i5,i6,i7,i8,-⟩:=zHd;obtain⟨H1,B1,F1,bW⟩:=h.pre [.int .i64 c] 268;clear h;go_enter func81,ntmps81;go_wp2_with fail;generalize w.alloc (.cells #[.int .i64 c] 268)=w1 at H1 F1 B1|-;clear i0 i1 i2 i3 i4 i5 i6 i7 i8 i9;have CX:=eu (zus H1.o hb);subst hr;clear hb;refine CX.o.mono ?_;rintro e w7⟨f7,rfl,h7⟩;have H7:=eu h7;have F7:=eu (F1.o.trans f7);clear f7 h7;go_wp2
 first|go_end0|refine Ju rfl rfl ?_
 exact⟨F7.o,rfl,H7.o⟩
theorem zjW{q:Except Nat Int}(h:qW w mb wb fv m)(hb:m.numberAt 0=some q)(hr:r=q.map λ_=>m):
  Calls prog 81 #[.pointer (some ⟨mb,0,none⟩),.iface 269 (.agg #[])] w λe w'=>Ends w mb wb fv r e w':=by
 obtain⟨ni,i0,i1,i2,i3,i4,i5,i6,i7,i8,i9,-⟩:=zG3;obtain⟨H1,B1,F1,bW⟩:=h.pre [] 269;clear h;go_enter func81,ntmps81;go_wp2_with fail;generalize w.alloc (.cells #[] 269)=w1 at H1 F1 B1|-;clear i0 i1 i2 i3 i4 i5 i6 i7 i8 i9 ni;have CX:=eu (Vf H1.o hb);subst hr;clear hb;refine CX.o.mono ?_;rintro e w7⟨⟨n7,og⟩,h7⟩;have H7:Hid (qW w7 mb wb fv m):=eu (by rw[og];exact H1.o.drewN n7);have F7:Hid (Fr (MB mb wb fv) w w7):=eu (by rw[og];exact F1.o.drewN n7);clear og;cases q with
 |error j=>obtain rfl:e=up j:=h7;exact⟨rfl,F7.o,rfl,_,H7.o⟩
 |ok v=>
  obtain rfl:e=.returned (.int .i64 v):=h7;go_wp2
  first|go_end0|refine Ju rfl rfl ?_
  exact⟨F7.o,rfl,H7.o⟩
theorem zoo{sg:ByteArray}(h:qW w mb wb fv m)(hb:m.compute sg=some r):
  Calls prog 81 #[.pointer (some ⟨mb,0,none⟩),.iface 272 (.agg #[.string sg])] w λe w'=>Ends w mb wb fv r e w':=by
 obtain⟨pw,i0,i1,i2,i3,i4,i5,i6,i7,i8,i9,ni,-⟩:=zG8;obtain⟨H1,B1,F1,bW⟩:=h.pre [.string sg] 272;clear h;go_enter func81,ntmps81;go_wp2_with fail;generalize w.alloc (.cells #[.string sg] 272)=w1 at H1 F1 B1|-;clear i0 i1 i2 i3 i4 i5 i6 i7 i8 i9 ni pw;have CX:=eu (zpl H1.o hb);refine CX.o.mono ?_;cases r with
 |error j=>rintro e w7⟨f7,rfl,h7⟩;exact⟨rfl,F1.o.trans f7,rfl,h7⟩
 |ok m'=>
  rintro e w7⟨f7,rfl,h7⟩;have H7:=eu h7;have F7:=eu (F1.o.trans f7);clear f7 h7;go_wp2
  first|go_end0|refine Ju rfl rfl ?_
  exact⟨F7.o,rfl,H7.o⟩
variable {sl:List Nat}
theorem zr4(h:qW w mb wb fv m)(hB:O4 w mb wb fv m.o.pb sl)(hb:m.enter sl=some r):
  Calls prog 81 #[.pointer (some ⟨mb,0,none⟩),.iface 185 (.agg #[])] w λe w'=>Ends w mb wb fv r e w':=by
 obtain⟨i12,i0,i1,i2,i3,i4,i5,i6,i7,i8,i9,ni,pw,-⟩:=zHc;obtain⟨H1,B1,F1,bW⟩:=h.pre [] 185;clear h;go_enter func81,ntmps81;go_wp2_with fail;generalize w.alloc (.cells #[] 185)=w1 at H1 F1 B1|-;clear i0 i1 i2 i3 i4 i5 i6 i7 i8 i9 ni pw i12;have CX:=eu (znM H1.o (hB.fr F1.o) hb);refine CX.o.mono ?_;cases r with
 |error j=>rintro e w7⟨f7,rfl,h7⟩;exact⟨rfl,F1.o.trans f7,rfl,h7⟩
 |ok m'=>
  rintro e w7⟨f7,rfl,h7⟩;have H7:=eu h7;have F7:=eu (F1.o.trans f7);clear f7 h7;go_wp2
  first|go_end0|refine Ju rfl rfl ?_
  exact⟨F7.o,rfl,H7.o⟩
variable {b:Nat}
theorem zuz(h:qW w mb wb fv m)(hr:r=.ok { m with o:={ m.o with next:=b } }):
  Calls prog 81 #[.pointer (some ⟨mb,0,none⟩),.iface 273 (.agg #[.int .i64 b])] w λe w'=>Ends w mb wb fv r e w':=by
 subst hr;have uQ:w.heap.size≠mb:=by have:=h.sat.blk.lt;omega
 obtain⟨yr,i0,i1,i2,i3,i4,i5,i6,i7,i8,i9,ni,pw,i12,-⟩:=zHf;obtain⟨H1,B1,F1,bW⟩:=h.pre [.int .i64 b] 273;clear h;go_enter func81,ntmps81;have d10:=H1.o.sat.Qy;have df:=H1.o.sat.blk.frozen 10;have c4:=H1.o.sat.c4;go_wp2_with fail;generalize w.alloc (.cells #[.int .i64 b] 273)=w1 at H1 F1 B1|-;clear i0 i1 i2 i3 i4 i5 i6 i7 i8 i9 ni pw i12 yr
 first|go_end0|refine Ju rfl rfl ?_
 have f7:Fr (M2 mb wb) w1 (w1.setCell ⟨mb,10,none⟩ (.int .i64 b)):=(eU _ _).set _ _ (.inl (.inl rfl));exact⟨F1.o.trans (f7.MD fv),rfl,H1.o.sat.Vw b,H1.o.OS.fr f7,H1.o.fl,H1.o.fuel⟩
variable {av:Value}{nA:List (Nat × Nat × Nat)}
theorem zpW(h:qW w mb wb fv m)(hA:SD w mb wb fv av nA)(hb:m.choose nA=some r):
  Calls prog 81 #[.pointer (some ⟨mb,0,none⟩),.iface 276 (.agg #[av])] w λe w'=>Ends w mb wb fv r e w':=by
 have HA:=eu hA;obtain⟨ab,cap,rfl,_⟩:=hA;obtain⟨FE,i0,i1,i2,i3,i4,i5,i6,i7,i8,i9,ni,pw,i12,yr,-⟩:=zHa;obtain⟨H1,B1,F1,bW⟩:=h.pre [.slice (some ⟨ab,0,none⟩) nA.length cap] 276;clear h;go_enter func81,ntmps81;go_wp2_with fail;generalize w.alloc (.cells #[.slice (some ⟨ab,0,none⟩) nA.length cap] 276)=w1 at H1 F1 B1|-;clear i0 i1 i2 i3 i4 i5 i6 i7 i8 i9 ni pw i12 yr FE;have CX:=eu (zrf H1.o (HA.o.fr F1.o) hb);refine CX.o.mono ?_;cases r with
 |error j=>rintro e w7⟨f7,rfl,h7⟩;exact⟨rfl,F1.o.trans f7,rfl,h7⟩
 |ok m'=>
  rintro e w7⟨f7,rfl,h7⟩;have H7:=eu h7;have F7:=eu (F1.o.trans f7);clear f7 h7;go_wp2
  first|go_end0|refine Ju rfl rfl ?_
  exact⟨F7.o,rfl,H7.o⟩
def l0.YR (m:l0) (k:Nat):Option (Except Nat l0):=Nj (m.M8 1) λm1=>
 match m1.slot k with
 |none=>none
 |some i=>
  match m1.s.ws[i]? with
  |none=>none
  |some x=>m1.put (m1.s.push x)
def l0.PM (m:l0) (f:Nat):Option (Except Nat l0):=Nj (m.M8 1) λm1=>
 match m1.fns[f]? with
 |none=>none
 |some x=>m1.put (m1.s.push x)
def l0.RN (m:l0) (k b:Nat):Option (Except Nat l0):=if b<=1000000000 then Nj (m.M8 1) λm1=>m1.put (m1.s.push (Mk k b))else none
variable {s s':nG}{x:Int}
theorem zv2{i:Nat}(h:s.push x=some s')(hx:s.ws[i]?=some x):s'.ws[i]?=some x:=by
 unfold nG.push at h;split at h
 .obtain rfl:=J8 h;simp only;have hi:=(Dq.1 hx).1;by_cases he:s.top-1=i
  .subst he;rw[List.getElem?_set_self hi]
  .rw[XJ he];exact hx
 .cases h
theorem zxF(h:s.push x=some s'):s'.ws.length=s.ws.length:=by
 unfold nG.push at h;split at h
 .obtain rfl:=J8 h;simp
 .cases h
variable {k:Nat}
theorem zuB(h:qW w mb wb fv m)(hb:m.YR k=some r):
  Calls prog 81 #[.pointer (some ⟨mb,0,none⟩),.iface 248 (.agg #[.int .i64 k])] w λe w'=>Ends w mb wb fv r e w':=by
 obtain⟨i0,-⟩:=zHh;obtain⟨H1,B1,F1,bW⟩:=h.pre [.int .i64 k] 248;clear h;go_enter func81,ntmps81;go_wp2_with fail;generalize w.alloc (.cells #[.int .i64 k] 248)=w1 at H1 F1 B1|-;clear i0;unfold l0.YR at hb;have CX:=eu (λ(q:Except Nat l0)(hq:m.M8 1=some q)=>Pd H1.o hq);unfold Nj at hb;split at hb
 .cases hb
 .next j hn=>obtain rfl:=J8 hb;refine(CX.o _ hn).mono ?_;rintro e w7⟨f7,rfl,h7⟩;exact⟨rfl,F1.o.trans f7,rfl,h7⟩
 .next m1 hn=>
  refine(CX.o _ hn).mono ?_;rintro e w2⟨f2,rfl,h2⟩;have H2:=eu h2;have F2:=eu (F1.o.trans f2);have B2:=eu (Fr.blk B1.o f2 bW.o);clear h2 f2 hn CX B1 H1 F1;dsimp only at hb;split at hb
  .cases hb
  .next i hi=>
   split at hb
   .cases hb
   .next x hx=>
    simp only[l0.put,M9]at hb;obtain⟨s4,aM,rfl⟩:=hb;have je:=eu aM;have pN:=eu hx;have br:=(Dq.1 hx).1;have o4:(i:Int)<(m1.s.ws.length:Int):=by omega
    have CS:=eu (λ(W:World)(hW:qW W mb wb fv m1)=>zqS hW hi);obtain⟨L,hL⟩:∃L,m1.s.ws.length=L:=⟨_,rfl⟩;have HL:=eu hL;rw[hL]at o4;have c0:=H2.o.sat.c0;rw[hL]at c0;have cb:=al B2.o 0;simp at cb;have cx:=H2.o.sat.word hx;clear aM hi hx hL br;go_wp2_with fail
    go_region_held3 (λW=>W.cell? ⟨mb,0,none⟩=some (.slice (some ⟨wb,0,none⟩) L L)/\W.cell? ⟨w.heap.size,0,none⟩=some (.int .i64 k)/\W.cell? ⟨wb,i,none⟩=some (.int .i64 x)) (first|go_keep|(refine⟨?_,?_,?_⟩<;>assumption)) (first
     |(go_at_call 131;refine(CS.o _ (H2.o.drewN 1)).mono ?_;rintro e w3⟨rfl,k3,bL⟩;have H3:Hid (qW w3 mb wb fv m1):=eu (by rw[bL];exact(H2.o.drewN 1).drewN k3);have F3:Hid (Fr (M2 mb wb) w2 w3):=eu (by rw[bL];exact((eU _ _).drewN 1).drewN k3);have B3:=eu (gd B2.o (F3.o.MD fv) bW.o);have d0:w3.cell? ⟨mb,0,none⟩=some (.slice (some ⟨wb,0,none⟩) L L):=(by rw[H3.o.sat.c0,HL.o]);have db:w3.cell? ⟨w.heap.size,0,none⟩=some (.int .i64 k):=(by simpa using al B3.o 0);have dx:=H3.o.sat.word pN.o;clear bL)
     |(go_at_call 76;refine(I9 H3.o.sat je.o).mono ?_;rintro e w4⟨rfl,h4,f4⟩;have H4:=eu h4;have F4:=eu (F3.o.trans f4);have e0:w4.cell? ⟨mb,0,none⟩=some (.slice (some ⟨wb,0,none⟩) L L):=(by rw[h4.c0,zxF je.o,HL.o]);have eb:w4.cell? ⟨w.heap.size,0,none⟩=some (.int .i64 k):=(by simpa using al (gd B3.o (f4.MD fv) bW.o) 0);have ex:=h4.word (zv2 je.o pN.o);clear h4 f4))
    all_goals
     go_wp2
     first|go_end0|refine Ju rfl rfl ?_
     exact⟨F2.o.trans (F4.o.MD fv),rfl,H2.o.O6 H4.o F4.o⟩
theorem zhV{f:Nat}(h:qW w mb wb fv m)(hb:m.PM f=some r):
  Calls prog 81 #[.pointer (some ⟨mb,0,none⟩),.iface 250 (.agg #[.int .i64 f])] w λe w'=>Ends w mb wb fv r e w':=by
 obtain⟨i1,i0,-⟩:=zGZ;obtain⟨H1,B1,F1,bW⟩:=h.pre [.int .i64 f] 250;clear h;go_enter func81,ntmps81;go_wp2_with fail;generalize w.alloc (.cells #[.int .i64 f] 250)=w1 at H1 F1 B1|-;clear i0 i1;unfold l0.PM at hb;have CX:=eu (λ(q:Except Nat l0)(hq:m.M8 1=some q)=>Pd H1.o hq);unfold Nj at hb;split at hb
 .cases hb
 .next j hn=>obtain rfl:=J8 hb;refine(CX.o _ hn).mono ?_;rintro e w7⟨f7,rfl,h7⟩;exact⟨rfl,F1.o.trans f7,rfl,h7⟩
 .next m1 hn=>
  refine(CX.o _ hn).mono ?_;rintro e w2⟨f2,rfl,h2⟩;have H2:=eu h2;have F2:=eu (F1.o.trans f2);have B2:=eu (Fr.blk B1.o f2 bW.o);clear h2 f2 hn CX B1 H1 F1;dsimp only at hb;split at hb
  .cases hb
  .next x hx=>
   simp only[l0.put,M9]at hb;obtain⟨s4,aM,rfl⟩:=hb;have je:=eu aM;have br:=(Dq.1 hx).1;rcases H2.o.OS with⟨_,ck⟩|⟨fb,cap,sp,rfl,oV,_⟩
   .rw[ck]at hx;cases hx
   .have o4:(f:Int)<(m1.fns.length:Int):=by omega
    have c8:=H2.o.sat.c8;have cb:=al B2.o 0;simp at cb;have cx:=oV.word hx;have vA:=eu oV;have Da:=eu hx;clear aM hx br oV;go_wp2_with fail
    go_region_held3 (λW=>W.cell? ⟨mb,8,none⟩=some (.slice (some ⟨fb,0,none⟩) m1.fns.length cap)/\W.cell? ⟨w.heap.size,0,none⟩=some (.int .i64 f)/\W.cell? ⟨fb,f,none⟩=some (.int .i64 x)) (first|go_keep|(refine⟨?_,?_,?_⟩<;>assumption)) ((go_at_call 76;refine(I9 H2.o.sat.drew je.o).mono ?_;rintro e w4⟨rfl,h4,f4⟩;have H4:=eu h4;have F4:Hid (Fr (M2 mb wb) w2 w4):=eu ((eU _ _).drew.trans f4);have e0:=h4.c8;have eb:w4.cell? ⟨w.heap.size,0,none⟩=some (.int .i64 f):=(by simpa using al (gd B2.o (F4.o.MD _) bW.o) 0);have ex:=(vA.o.fr F4.o).word Da.o;clear h4 f4))
    all_goals
     go_wp2
     first|go_end0|refine Ju rfl rfl ?_
     exact⟨F2.o.trans (F4.o.MD _),rfl,H2.o.O6 H4.o F4.o⟩
theorem zuC(h:qW w mb wb fv m)(hb:m.RN 1 b=some r):
  Calls prog 81 #[.pointer (some ⟨mb,0,none⟩),.iface 263 (.agg #[.int .i64 b])] w λe w'=>Ends w mb wb fv r e w':=by
 obtain⟨i7,i0,i1,i2,i3,i4,i5,i6,-⟩:=zHi;obtain⟨H1,B1,F1,bW⟩:=h.pre [.int .i64 b] 263;clear h;go_enter func81,ntmps81;go_wp2_with fail;generalize w.alloc (.cells #[.int .i64 b] 263)=w1 at H1 F1 B1|-;clear i0 i1 i2 i3 i4 i5 i6 i7;unfold l0.RN at hb;split at hb
 .next iC=>
  have CX:=eu (λ(q:Except Nat l0)(hq:m.M8 1=some q)=>Pd H1.o hq);unfold Nj at hb;split at hb
  .cases hb
  .next j hn=>obtain rfl:=J8 hb;refine(CX.o _ hn).mono ?_;rintro e w7⟨f7,rfl,h7⟩;exact⟨rfl,F1.o.trans f7,rfl,h7⟩
  .next m1 hn=>
   refine(CX.o _ hn).mono ?_;rintro e w2⟨f2,rfl,h2⟩;have H2:=eu h2;have F2:=eu (F1.o.trans f2);have B2:=eu (Fr.blk B1.o f2 bW.o);clear h2 f2 hn CX B1 H1 F1;dsimp only at hb;simp only[l0.put,M9]at hb;obtain⟨s4,aM,rfl⟩:=hb;have CM:=eu (λW:World=>YP 1 b W (by omega) iC);obtain⟨z,hz⟩:∃z,Mk 1 b=z:=⟨_,rfl⟩;rw[hz]at CM aM;have je:=eu aM;have cb:=oH.cell B2.o 0;simp at cb;clear aM hz;go_wp2_with fail
   go_region_held3 (λW=>W.cell? ⟨w.heap.size,0,none⟩=some (.int .i64 b)) (first|go_keep|assumption) (first
    |(go_at_call 138;refine(CM.o _).mono ?_;rintro e w3⟨rfl,bL⟩;subst w3)
    |(go_at_call 76;refine(I9 H2.o.sat.drew je.o).mono ?_;rintro e w4⟨rfl,h4,f4⟩;have H4:=eu h4;have F4:Hid (Fr (M2 mb wb) w2 w4):=eu ((eU _ _).drew.trans f4);have eb:w4.cell? ⟨w.heap.size,0,none⟩=some (.int .i64 b):=(by simpa using al (gd B2.o (F4.o.MD fv) bW.o) 0);clear h4 f4))
   all_goals
    go_wp2
    first|go_end0|refine Ju rfl rfl ?_
    exact⟨F2.o.trans (F4.o.MD fv),rfl,H2.o.O6 H4.o F4.o⟩
 .cases hb
theorem zhW(h:qW w mb wb fv m)(hb:m.RN 2 b=some r):
  Calls prog 81 #[.pointer (some ⟨mb,0,none⟩),.iface 267 (.agg #[.int .i64 b])] w λe w'=>Ends w mb wb fv r e w':=by
 obtain⟨i8,i0,i1,i2,i3,i4,i5,i6,i7,-⟩:=zG0;obtain⟨H1,B1,F1,bW⟩:=h.pre [.int .i64 b] 267;clear h;go_enter func81,ntmps81;go_wp2_with fail;generalize w.alloc (.cells #[.int .i64 b] 267)=w1 at H1 F1 B1|-;clear i0 i1 i2 i3 i4 i5 i6 i7 i8;unfold l0.RN at hb;split at hb
 .next iC=>
  have CX:=eu (λ(q:Except Nat l0)(hq:m.M8 1=some q)=>Pd H1.o hq);unfold Nj at hb;split at hb
  .cases hb
  .next j hn=>obtain rfl:=J8 hb;refine(CX.o _ hn).mono ?_;rintro e w7⟨f7,rfl,h7⟩;exact⟨rfl,F1.o.trans f7,rfl,h7⟩
  .next m1 hn=>
   refine(CX.o _ hn).mono ?_;rintro e w2⟨f2,rfl,h2⟩;have H2:=eu h2;have F2:=eu (F1.o.trans f2);have B2:=eu (Fr.blk B1.o f2 bW.o);clear h2 f2 hn CX B1 H1 F1;dsimp only at hb;simp only[l0.put,M9]at hb;obtain⟨s4,aM,rfl⟩:=hb;have CM:=eu (λW:World=>YP 2 b W (by omega) iC);obtain⟨z,hz⟩:∃z,Mk 2 b=z:=⟨_,rfl⟩;rw[hz]at CM aM;have je:=eu aM;have cb:=oH.cell B2.o 0;simp at cb;clear aM hz;go_wp2_with fail
   go_region_held3 (λW=>W.cell? ⟨w.heap.size,0,none⟩=some (.int .i64 b)) (first|go_keep|assumption) (first
    |(go_at_call 138;refine(CM.o _).mono ?_;rintro e w3⟨rfl,bL⟩;subst w3)
    |(go_at_call 76;refine(I9 H2.o.sat.drew je.o).mono ?_;rintro e w4⟨rfl,h4,f4⟩;have H4:=eu h4;have F4:Hid (Fr (M2 mb wb) w2 w4):=eu ((eU _ _).drew.trans f4);have eb:w4.cell? ⟨w.heap.size,0,none⟩=some (.int .i64 b):=(by simpa using al (gd B2.o (F4.o.MD fv) bW.o) 0);clear h4 f4))
   all_goals
    go_wp2
    first|go_end0|refine Ju rfl rfl ?_
    exact⟨F2.o.trans (F4.o.MD fv),rfl,H2.o.O6 H4.o F4.o⟩
 .cases hb
def l0.pack (m:l0) (k t c:Nat):Option (Except Nat l0):=if t<=1000000000/\c<4096 then m.build (Hd k t c) c else none
def l0.hold (m:l0) (b c:Nat):Option (Except Nat l0):=if b<=1000000000/\c<4096 then m.zjH (Hd 2 b c) c else none
variable {t:Nat}
theorem zuA(h:qW w mb wb fv m)(hb:m.pack 1 t c=some r):
  Calls prog 81 #[.pointer (some ⟨mb,0,none⟩),.iface 254 (.agg #[.int .i64 t,.int .i64 c])] w λe w'=>Ends w mb wb fv r e w':=by
 unfold l0.pack at hb;split at hb
 .next hg=>
  obtain⟨i3,i0,i1,i2,-⟩:=zHg;obtain⟨H1,B1,F1,bW⟩:=h.pre [.int .i64 t,.int .i64 c] 254;clear h;go_enter func81,ntmps81;go_wp2_with fail;generalize w.alloc (.cells #[.int .i64 t,.int .i64 c] 254)=w1 at H1 F1 B1|-;clear i0 i1 i2 i3;have CH:=eu (λW:World=>Rg 1 t c W (by omega) hg.2 hg.1);obtain⟨z,hz⟩:∃z,Hd 1 t c=z:=⟨_,rfl⟩;rw[hz]at CH hb;have CB:=eu (λ(W:World)(hW:qW W mb wb fv m)=>YA hW (show c<=1000000 by omega) hb);have SW:w1.drew.cell? ⟨w.heap.size,0,none⟩=some (.int .i64 t)/\w1.drew.cell? ⟨w.heap.size,1,none⟩=some (.int .i64 c):=⟨by simpa using al B1.o.drew 0,by simpa using al B1.o.drew 1⟩;clear hb hz hg;refine uu (S:=λW=>W.cell? ⟨w.heap.size,0,none⟩=some (.int .i64 t)/\W.cell? ⟨w.heap.size,1,none⟩=some (.int .i64 c)) (by kernel_rfl) SW (λax=>?_);refine tk 0 ?_
  try simp only[Act.put,MV]
  refine tk 1 ?_
  try simp only[Act.put]
  refine tk 2 ?_
  try simp only[Act.put]
  refine tk 3 ?_
  try simp only[Act.put]
  refine tk 4 ?_
  try simp only[Act.put]
  refine tk 6 ?_
  try simp only[Act.put]
  refine tk 7 ?_
  try simp only[Act.put]
  refine OD 5 rfl λK hK=>?_
  go_simp
  refine(CH.o _).mono ?_;rintro e w3⟨rfl,bL⟩;subst w3;refine hK.out _ _ SW (λax=>?_);clear hK K
  try simp only[Act.put,MV,NK,Nh]
  refine OD 8 rfl λK hK=>?_
  go_simp
  refine(CB.o _ (H1.o.drewN 1)).mono ?_;cases r with
  |error j=>rintro e w7⟨f7,rfl,h7⟩;exact⟨rfl,F1.o.drew.trans f7,rfl,h7⟩
  |ok m'=>
   rintro e w7⟨f7,rfl,h7⟩;have H7:=eu h7;have F7:=eu (F1.o.drew.trans f7);have B7:=gd B1.o.drew f7 bW.o;have S7:w7.cell? ⟨w.heap.size,0,none⟩=some (.int .i64 t)/\w7.cell? ⟨w.heap.size,1,none⟩=some (.int .i64 c):=⟨by simpa using al B7 0,by simpa using al B7 1⟩;clear f7 h7 B7;refine hK.out _ _ S7 (λax=>?_);clear hK K
   try simp only[Act.put,MV,NK,Nh]
   refine Jh (by kernel_rfl) ?_ _;clear SW S7;go_wp2
   first|go_end0|refine Ju rfl rfl ?_
   exact⟨F7.o,rfl,H7.o⟩
 .cases hb
theorem zr3(h:qW w mb wb fv m)(hb:m.pack 2 t c=some r):
  Calls prog 81 #[.pointer (some ⟨mb,0,none⟩),.iface 257 (.agg #[.int .i64 t,.int .i64 c])] w λe w'=>Ends w mb wb fv r e w':=by
 unfold l0.pack at hb;split at hb
 .next hg=>
  obtain⟨i4,i0,i1,i2,i3,-⟩:=zHb;obtain⟨H1,B1,F1,bW⟩:=h.pre [.int .i64 t,.int .i64 c] 257;clear h;go_enter func81,ntmps81;go_wp2_with fail;generalize w.alloc (.cells #[.int .i64 t,.int .i64 c] 257)=w1 at H1 F1 B1|-;clear i0 i1 i2 i3 i4;have CH:=eu (λW:World=>Rg 2 t c W (by omega) hg.2 hg.1);obtain⟨z,hz⟩:∃z,Hd 2 t c=z:=⟨_,rfl⟩;rw[hz]at CH hb;have CB:=eu (λ(W:World)(hW:qW W mb wb fv m)=>YA hW (show c<=1000000 by omega) hb);have SW:w1.drew.cell? ⟨w.heap.size,0,none⟩=some (.int .i64 t)/\w1.drew.cell? ⟨w.heap.size,1,none⟩=some (.int .i64 c):=⟨by simpa using al B1.o.drew 0,by simpa using al B1.o.drew 1⟩;clear hb hz hg;refine uu (S:=λW=>W.cell? ⟨w.heap.size,0,none⟩=some (.int .i64 t)/\W.cell? ⟨w.heap.size,1,none⟩=some (.int .i64 c)) (by kernel_rfl) SW (λax=>?_);refine tk 0 ?_
  try simp only[Act.put,MV]
  refine tk 1 ?_
  try simp only[Act.put]
  refine tk 2 ?_
  try simp only[Act.put]
  refine tk 3 ?_
  try simp only[Act.put]
  refine tk 4 ?_
  try simp only[Act.put]
  refine tk 6 ?_
  try simp only[Act.put]
  refine tk 7 ?_
  try simp only[Act.put]
  refine OD 5 rfl λK hK=>?_
  go_simp
  refine(CH.o _).mono ?_;rintro e w3⟨rfl,bL⟩;subst w3;refine hK.out _ _ SW (λax=>?_);clear hK K
  try simp only[Act.put,MV,NK,Nh]
  refine OD 8 rfl λK hK=>?_
  go_simp
  refine(CB.o _ (H1.o.drewN 1)).mono ?_;cases r with
  |error j=>rintro e w7⟨f7,rfl,h7⟩;exact⟨rfl,F1.o.drew.trans f7,rfl,h7⟩
  |ok m'=>
   rintro e w7⟨f7,rfl,h7⟩;have H7:=eu h7;have F7:=eu (F1.o.drew.trans f7);have B7:=gd B1.o.drew f7 bW.o;have S7:w7.cell? ⟨w.heap.size,0,none⟩=some (.int .i64 t)/\w7.cell? ⟨w.heap.size,1,none⟩=some (.int .i64 c):=⟨by simpa using al B7 0,by simpa using al B7 1⟩;clear f7 h7 B7;refine hK.out _ _ S7 (λax=>?_);clear hK K
   try simp only[Act.put,MV,NK,Nh]
   refine Jh (by kernel_rfl) ?_ _;clear SW S7;go_wp2
   first|go_end0|refine Ju rfl rfl ?_
   exact⟨F7.o,rfl,H7.o⟩
 .cases hb
theorem zop(h:qW w mb wb fv m)(hb:m.hold t c=some r):
  Calls prog 81 #[.pointer (some ⟨mb,0,none⟩),.iface 258 (.agg #[.int .i64 t,.int .i64 c])] w λe w'=>Ends w mb wb fv r e w':=by
 unfold l0.hold at hb;split at hb
 .next hg=>
  obtain⟨i5,i0,i1,i2,i3,i4,-⟩:=zG9;obtain⟨H1,B1,F1,bW⟩:=h.pre [.int .i64 t,.int .i64 c] 258;clear h;go_enter func81,ntmps81;go_wp2_with fail;generalize w.alloc (.cells #[.int .i64 t,.int .i64 c] 258)=w1 at H1 F1 B1|-;clear i0 i1 i2 i3 i4 i5;have CH:=eu (λW:World=>Rg 2 t c W (by omega) hg.2 hg.1);obtain⟨z,hz⟩:∃z,Hd 2 t c=z:=⟨_,rfl⟩;rw[hz]at CH hb;have CB:=eu (λ(W:World)(hW:qW W mb wb fv m)=>zpL hW (show c<=1000000 by omega) hb);have SW:w1.drew.cell? ⟨w.heap.size,0,none⟩=some (.int .i64 t)/\w1.drew.cell? ⟨w.heap.size,1,none⟩=some (.int .i64 c):=⟨by simpa using al B1.o.drew 0,by simpa using al B1.o.drew 1⟩;clear hb hz hg;refine uu (S:=λW=>W.cell? ⟨w.heap.size,0,none⟩=some (.int .i64 t)/\W.cell? ⟨w.heap.size,1,none⟩=some (.int .i64 c)) (by kernel_rfl) SW (λax=>?_);refine tk 0 ?_
  try simp only[Act.put,MV]
  refine tk 1 ?_
  try simp only[Act.put]
  refine tk 2 ?_
  try simp only[Act.put]
  refine tk 3 ?_
  try simp only[Act.put]
  refine tk 4 ?_
  try simp only[Act.put]
  refine tk 6 ?_
  try simp only[Act.put]
  refine tk 7 ?_
  try simp only[Act.put]
  refine OD 5 rfl λK hK=>?_
  go_simp
  refine(CH.o _).mono ?_;rintro e w3⟨rfl,bL⟩;subst w3;refine hK.out _ _ SW (λax=>?_);clear hK K
  try simp only[Act.put,MV,NK,Nh]
  refine OD 8 rfl λK hK=>?_
  go_simp
  refine(CB.o _ (H1.o.drewN 1)).mono ?_;cases r with
  |error j=>rintro e w7⟨f7,rfl,h7⟩;exact⟨rfl,F1.o.drew.trans f7,rfl,h7⟩
  |ok m'=>
   rintro e w7⟨f7,rfl,h7⟩;have H7:=eu h7;have F7:=eu (F1.o.drew.trans f7);have B7:=gd B1.o.drew f7 bW.o;have S7:w7.cell? ⟨w.heap.size,0,none⟩=some (.int .i64 t)/\w7.cell? ⟨w.heap.size,1,none⟩=some (.int .i64 c):=⟨by simpa using al B7 0,by simpa using al B7 1⟩;clear f7 h7 B7;refine hK.out _ _ S7 (λax=>?_);clear hK K
   try simp only[Act.put,MV,NK,Nh]
   refine Jh (by kernel_rfl) ?_ _;clear SW S7;go_wp2
   first|go_end0|refine Ju rfl rfl ?_
   exact⟨F7.o,rfl,H7.o⟩
 .cases hb
def l0.VF (m:l0) (k c:Nat):Option (Except Nat l0):=
 match m.slot k with
 |none=>none
 |some i=>
  match m.s.ws[i]? with
  |none=>none
  |some x=>if x<0 then none else
   match m.s.head x.toNat with
   |none=>none
   |some y=>if MA y=c/\x.toNat+1+c<=m.s.ws.length/\m.s.top+c<=m.s.ws.length/\(i<x.toNat+1\/x.toNat+1+c<=i)then
     m.put (nG.pop { m.s with ws:=Go.splice m.s.ws (x.toNat+1) (m.s.words m.s.top c) } c)
    else none
theorem zr0{ws xs:List Int}{o i:Nat}(h:o+xs.length<=ws.length)(hi:i<o\/o+xs.length<=i):(Go.splice ws o xs)[i]?=ws[i]?:=by
 unfold Go.splice;rcases hi with hi|hi
 .rw[Pq (by rw[NQ];omega),List.getElem?_take_of_lt hi]
 .rw[Om (by rw[NQ];omega),NQ,Sa (by omega),Om (by omega),Qe];congr 1;omega
theorem zuy(h:qW w mb wb fv m)(hb:m.VF k c=some r):
  Calls prog 81 #[.pointer (some ⟨mb,0,none⟩),.iface 260 (.agg #[.int .i64 k,.int .i64 c])] w λe w'=>Ends w mb wb fv r e w':=by
 unfold l0.VF at hb;split at hb
 .cases hb
 .next i hi=>
  split at hb
  .cases hb
  .next x hx=>
   split at hb
   .cases hb
   .next cX=>
    split at hb
    .cases hb
    .next y hh=>
     split at hb
     .next hg=>
      simp only[l0.put,M9]at hb;obtain⟨s4,dW,rfl⟩:=hb;obtain⟨a,rfl⟩:∃a:Nat,x=a:=⟨x.toNat,by omega⟩;simp only[MO]at hh hg dW;obtain⟨hy,aT,bE,aU⟩:=xW hh;obtain⟨bw,aF,aS,bM⟩:=hg;have br:=(Dq.1 hx).1;have jj:(c:Int)<4096:=by have:=Vo y;omega
      have hlen:=h.sat.len;obtain⟨i6,i0,i1,i2,i3,i4,i5,-⟩:=zHe;obtain⟨H1,B1,F1,bW⟩:=h.pre [.int .i64 k,.int .i64 c] 260;clear h;go_enter func81,ntmps81;go_wp2_with fail;generalize w.alloc (.cells #[.int .i64 k,.int .i64 c] 260)=w1 at H1 F1 B1|-;clear i0 i1 i2 i3 i4 i5 i6;have HC:=eu (H1.o.drewN 1);have FC:Hid (Fr (M2 mb wb) w1 (w1.drewN 1)):=eu ((eU _ _).drewN 1);have CS:=eu (λ(W:World)(hW:qW W mb wb fv m)=>zqS hW hi);have CF:=eu (λ(W:World)(hW:qW W mb wb fv m)=>Vg hW.sat a y hy aT bE (show a+1+MA y<=m.s.ws.length by omega));have CT:=eu (λ(W:World)(hW:qW W mb wb fv m)=>Xf hW.sat c aS);rw[show(y/16%4096).toNat=c from bw]at CF;have pN:=eu hx;have dk:(m.s.words m.s.top c).length=c:=JZ aS;have mD:Hid (∀(j:Nat)x,(m.s.words m.s.top c)[j]?=some x->m.s.ws[m.s.top+j]?=some x):=eu (λj x hj=>(Mc hj).2);have ug:Hid (0<c->cutAt m.s.ws.length (a+1)=a+1):=eu (λh0=>QQ);have mA:Hid (0<c->cutAt m.s.ws.length m.s.top=m.s.top):=eu (λh0=>QQ);have uh:Hid (cutAt m.s.ws.length (a+1)+c<=m.s.ws.length):=eu (by unfold cutAt;split<;>omega);obtain⟨L,hL⟩:∃L,m.s.ws.length=L:=⟨_,rfl⟩;have o4:(i:Int)<(L:Int):=by omega
      have HL:=eu hL;have c0:=H1.o.sat.c0;rw[hL]at c0 ug mA uh CF CT;generalize cutAt L (a+1)=o1 at ug uh CF;generalize cutAt L m.s.top=o2 at mA CT;generalize L-(a+1)=q1 at CF;generalize L-m.s.top=q2 at CT;generalize m.s.words m.s.top c=xs at dk mD dW;have kE:Hid (nG.pop { m.s with ws:=Go.splice m.s.ws o1 xs } c=some s4):=eu (by
       by_cases h0:c=0
       .have cX:xs=[]:=Sc (by omega);rw[cX]at dW|-;simpa[Go.splice]using dW
       .rw[ug.o (by omega)];exact dW)
      have CY:Hid ((Go.splice m.s.ws o1 xs)[i]?=some (a:Int)):=eu (by
       by_cases h0:c=0
       .have cX:xs=[]:=Sc (by omega);rw[cX];simpa[Go.splice]using hx
       .rw[zr0 (by rw[dk,hL];exact uh.o) (by rw[ug.o (by omega),dk];exact bM)];exact hx)
      have cb:w1.cell? ⟨w.heap.size,0,none⟩=some (.int .i64 k):=by simpa using al B1.o 0
      have cc:w1.cell? ⟨w.heap.size,1,none⟩=some (.int .i64 c):=by simpa using al B1.o 1
      have cx:=H1.o.sat.word hx;have fZ:Hid (o1+xs.length<=m.s.ws.length):=eu (by rw[dk,hL];exact uh.o);have FY:=eu (kK aF aS);clear hi hx hh bw aF aS bM hy aT bE aU br hL dW hlen cX
      go_region_held3 (λW=>W.cell? ⟨mb,0,none⟩=some (.slice (some ⟨wb,0,none⟩) L L)/\W.cell? ⟨w.heap.size,0,none⟩=some (.int .i64 k)/\W.cell? ⟨w.heap.size,1,none⟩=some (.int .i64 c)/\W.cell? ⟨wb,i,none⟩=some (.int .i64 a)) (first|go_keep|(refine⟨?_,?_,?_,?_⟩<;>assumption)) (first
       |(go_at_call 131;refine(CS.o _ HC.o).mono ?_;rintro e w3⟨rfl,k3,bL⟩;have nw:Hid (qW w3 mb wb fv m):=eu (by rw[bL];exact HC.o.drewN k3);have nr:Hid (Fr (M2 mb wb) w1 w3):=eu (by rw[bL];exact FC.o.drewN k3);clear HC FC bL;have HC:=nw;have FC:=nr;clear nw nr;have d0:w3.cell? ⟨mb,0,none⟩=some (.slice (some ⟨wb,0,none⟩) L L):=(by rw[HC.o.sat.c0,HL.o]);have db:w3.cell? ⟨w.heap.size,0,none⟩=some (.int .i64 k):=(by simpa using al (gd B1.o (FC.o.MD fv) bW.o) 0);have dc:w3.cell? ⟨w.heap.size,1,none⟩=some (.int .i64 c):=(by simpa using al (gd B1.o (FC.o.MD fv) bW.o) 1);have dx:=HC.o.sat.word pN.o)
       |(go_at_call 135;refine(CF.o _ HC.o).mono ?_;rintro e w3⟨rfl,k3,bL⟩;have nw:Hid (qW w3 mb wb fv m):=eu (by rw[bL];exact HC.o.drewN k3);have nr:Hid (Fr (M2 mb wb) w1 w3):=eu (by rw[bL];exact FC.o.drewN k3);clear HC FC bL;have HC:=nw;have FC:=nr;clear nw nr;have d0:w3.cell? ⟨mb,0,none⟩=some (.slice (some ⟨wb,0,none⟩) L L):=(by rw[HC.o.sat.c0,HL.o]);have db:w3.cell? ⟨w.heap.size,0,none⟩=some (.int .i64 k):=(by simpa using al (gd B1.o (FC.o.MD fv) bW.o) 0);have dc:w3.cell? ⟨w.heap.size,1,none⟩=some (.int .i64 c):=(by simpa using al (gd B1.o (FC.o.MD fv) bW.o) 1);have dx:=HC.o.sat.word pN.o)
       |(go_at_call 136;refine(CT.o _ HC.o).mono ?_;rintro e w3⟨rfl,k3,bL⟩;have nw:Hid (qW w3 mb wb fv m):=eu (by rw[bL];exact HC.o.drewN k3);have nr:Hid (Fr (M2 mb wb) w1 w3):=eu (by rw[bL];exact FC.o.drewN k3);clear HC FC bL;have HC:=nw;have FC:=nr;clear nw nr;have d0:w3.cell? ⟨mb,0,none⟩=some (.slice (some ⟨wb,0,none⟩) L L):=(by rw[HC.o.sat.c0,HL.o]);have db:w3.cell? ⟨w.heap.size,0,none⟩=some (.int .i64 k):=(by simpa using al (gd B1.o (FC.o.MD fv) bW.o) 0);have dc:w3.cell? ⟨w.heap.size,1,none⟩=some (.int .i64 c):=(by simpa using al (gd B1.o (FC.o.MD fv) bW.o) 1);have dx:=HC.o.sat.word pN.o)
       |(refine Tg (by rfl) _ _ (by rfl) HC.o.sat o1 _ _ _ _ _ (by rfl) (by rfl) xs (by rw[dk];exact(Nat.min_self c).symm) (λh0=>⟨_,rfl,λj x hj=>by rw[Pf,mA.o (by omega)];exact HC.o.sat.word (mD.o j x hj)⟩) fZ.o ?_;intro w8 h8 f8;have H8:=eu h8;have F8:=eu (FC.o.trans f8);have e0:w8.cell? ⟨mb,0,none⟩=some (.slice (some ⟨wb,0,none⟩) L L):=(by rw[h8.c0];simp only;rw[PI _ _ _ fZ.o,HL.o]);have eb:w8.cell? ⟨w.heap.size,0,none⟩=some (.int .i64 k):=(by simpa using al (gd B1.o (F8.o.MD fv) bW.o) 0);have ec:w8.cell? ⟨w.heap.size,1,none⟩=some (.int .i64 c):=(by simpa using al (gd B1.o (F8.o.MD fv) bW.o) 1);have ex:=h8.word CY.o;clear h8 f8))
      all_goals
       clear c0 cb cc cx d0 db dc dx e0 eb ex;go_wp2_with fail
       go_region_held3 (λW=>W.cell? ⟨w.heap.size,1,none⟩=some (.int .i64 c)) (first|go_keep|assumption) ((go_at_call 137;refine(Kj H8.o.drew kE.o).mono ?_;rintro e w9⟨rfl,h9,f9⟩;have H9:=eu h9;have F9:=eu (F8.o.drew.trans f9);have eb:w9.cell? ⟨w.heap.size,1,none⟩=some (.int .i64 c):=(by simpa using al (gd B1.o (F9.o.MD fv) bW.o) 1);clear h9 f9))
       all_goals
        go_wp2
        first|go_end0|refine Ju rfl rfl ?_
        exact⟨F1.o.trans (F9.o.MD fv),rfl,H1.o.O6 H9.o F9.o⟩
     .cases hb
end
section
open Go.RowKit
inductive Ds where
 |push (k:Nat)
 |PM (f:Nat)
 |num (v:Int)
 |pack (t c:Nat)
 |close (b c:Nat)
 |hold (b c:Nat)
 |fill (k c:Nat)
 |wait (b:Nat)
 |N6 (c:Nat)
 |NG (c:Nat)
 |PJ
 |comp (sg:ByteArray)
 |enter
 |jump (b:Nat)
 |choose (nA:List (Nat × Nat × Nat))
def Sd (w:World) (mb wb:Nat) (fv:Value) (v:Value):Ds->Prop
 |.push k=>v=.iface 248 (.agg #[.int .i64 k])
 |.PM f=>v=.iface 250 (.agg #[.int .i64 f])
 |.num x=>v=.iface 252 (.agg #[.int .i64 x])
 |.pack t c=>v=.iface 254 (.agg #[.int .i64 t,.int .i64 c])
 |.close b c=>v=.iface 257 (.agg #[.int .i64 b,.int .i64 c])
 |.hold b c=>v=.iface 258 (.agg #[.int .i64 b,.int .i64 c])
 |.fill k c=>v=.iface 260 (.agg #[.int .i64 k,.int .i64 c])
 |.wait b=>v=.iface 263 (.agg #[.int .i64 b])
 |.N6 c=>v=.iface 267 (.agg #[.int .i64 c])
 |.NG c=>v=.iface 268 (.agg #[.int .i64 c])
 |.PJ=>v=.iface 269 (.agg #[])
 |.comp sg=>v=.iface 272 (.agg #[.string sg])
 |.enter=>v=.iface 185 (.agg #[])
 |.jump b=>v=.iface 273 (.agg #[.int .i64 b])
 |.choose nA=>∃av,v=.iface 276 (.agg #[av])/\SD w mb wb fv av nA
theorem Sd.fr{w w':World}{mb wb:Nat}{fv v:Value}{i:Ds}(h:Sd w mb wb fv v i)(f:Fr (MB mb wb fv) w w'):Sd w' mb wb fv v i:=by cases i<;>first|exact h|(obtain⟨av,h1,h2⟩:=h;exact⟨av,h1,h2.fr f⟩)
def l0.step (m:l0) (sl:List Nat):Ds->Option (Except Nat l0)
 |.push k=>m.YR k
 |.PM f=>m.PM f
 |.num x=>m.N5 x
 |.pack t c=>m.pack 1 t c
 |.close b c=>m.pack 2 b c
 |.hold b c=>m.hold b c
 |.fill k c=>m.VF k c
 |.wait b=>m.RN 1 b
 |.N6 c=>m.RN 2 c
 |.NG c=>(m.NG c).map .ok
 |.PJ=>(m.numberAt 0).map λq=>q.map λ_=>m
 |.comp sg=>m.compute sg
 |.enter=>m.enter sl
 |.jump b=>some (.ok { m with o:={ m.o with next:=b } })
 |.choose nA=>m.choose nA
variable {w:World}{mb wb:Nat}{fv:Value}{m:l0}{sl:List Nat}{r:Except Nat l0}
theorem zwn{v:Value}{i:Ds}(h:qW w mb wb fv m)(hB:O4 w mb wb fv m.o.pb sl)(hi:Sd w mb wb fv v i)(hb:m.step sl i=some r):
  Calls prog 81 #[.pointer (some ⟨mb,0,none⟩),v] w λe w'=>Ends w mb wb fv r e w':=by
 cases i with
 |push k=>obtain rfl:=hi;exact zuB h hb
 |PM f=>obtain rfl:=hi;exact zhV h hb
 |num x=>obtain rfl:=hi;exact zjX h hb
 |pack t c=>obtain rfl:=hi;exact zuA h hb
 |close b c=>obtain rfl:=hi;exact zr3 h hb
 |hold b c=>obtain rfl:=hi;exact zop h hb
 |fill k c=>obtain rfl:=hi;exact zuy h hb
 |wait b=>obtain rfl:=hi;exact zuC h hb
 |N6 c=>obtain rfl:=hi;exact zhW h hb
 |NG c=>obtain rfl:=hi;simp only[l0.step,M9]at hb;obtain⟨m2,h2,rfl⟩:=hb;exact zr5 h h2 rfl
 |PJ=>obtain rfl:=hi;simp only[l0.step,M9]at hb;obtain⟨q,h2,rfl⟩:=hb;exact zjW h h2 rfl
 |comp sg=>obtain rfl:=hi;exact zoo h hb
 |enter=>obtain rfl:=hi;exact zr4 h hB hb
 |jump b=>obtain rfl:=hi;exact zuz h (J8 hb).symm
 |choose nA=>obtain⟨av,rfl,hA⟩:=hi;exact zpW h hA hb
def UQ (r:Int):Bool:=r == 32||r == 10
def Rj (r:Int):Bool:=decide (97<=r) && decide (r<=122)
def Sz (r:Int):Bool:=decide (48<=r) && decide (r<=57)
def UR (r:Int):Bool:=Rj r||Sz r
theorem zgo(r:Int)(w:World):
  Calls prog 189 #[.int .i32 r] w λe w'=>e=.returned (.bool (UQ r))/\w'=w:=by
 by_cases h:(r == 32)=true
 .go_enter func189,ntmps189
  go_wp2
  go_ret;exact⟨by simp[UQ,h],rfl⟩
 .have h:(r == 32)=false:=by simpa using h
  go_enter func189,ntmps189
  go_wp2
  go_ret;exact⟨by simp[UQ,h],rfl⟩
theorem Yl(r:Int)(w:World):
  Calls prog 242 #[.int .i32 r] w λe w'=>e=.returned (.bool (Rj r))/\w'=w:=by
 by_cases h:97<=r
 .go_enter func242,ntmps242
  go_wp2
  go_ret;exact⟨by simp[Rj,h],rfl⟩
 .have hd:decide (97<=r)=false:=by simpa using h
  go_enter func242,ntmps242
  go_wp2
  go_ret;exact⟨by simp[Rj,hd],rfl⟩
theorem zeh(r:Int)(w:World):
  Calls prog 245 #[.int .i32 r] w λe w'=>e=.returned (.bool (Sz r))/\w'=w:=by
 by_cases h:48<=r
 .go_enter func245,ntmps245
  go_wp2
  go_ret;exact⟨by simp[Sz,h],rfl⟩
 .have hd:decide (48<=r)=false:=by simpa using h
  go_enter func245,ntmps245
  go_wp2
  go_ret;exact⟨by simp[Sz,hd],rfl⟩
theorem zmr(r:Int)(w:World):
  Calls prog 244 #[.int .i32 r] w λe w'=>e=.returned (.bool (UR r))/\w'=w:=by
 cases h:Rj r
 .go_enter func244,ntmps244;go_wp2_with fail;refine(Yl r _).mono ?_;rintro e w'⟨rfl,rfl⟩;rw[h];go_wp2_with fail;refine(zeh r _).mono ?_;rintro e w'⟨rfl,rfl⟩;go_wp2;go_ret;exact⟨by simp[UR,h],rfl⟩
 .go_enter func244,ntmps244;go_wp2_with fail;refine(Yl r _).mono ?_;rintro e w'⟨rfl,rfl⟩;rw[h];go_wp2;go_ret;exact⟨by simp[UR,h],rfl⟩
theorem YE{q:UInt8->Bool}:∀(l:List UInt8)(k:Nat),k<=l.length->(∀j(h:j<l.length),j<k->q l[j]=true) ->
  (∀(h:k<l.length),q l[k]=false)->(l.takeWhile q).length=k
 |[],k,hk,_,_=>by simp at hk;simp[hk]
 |c::l,0,_,_,h2=>by have:=h2 (by simp);simp at this;simp[this]
 |c::l,k+1,hk,h1,h2=>by
  have a:=h1 0 (by simp) (by omega);simp at a;have ih:=YE l k (by simpa using hk) (λj h hj=>by have:=h1 (j+1) (by simpa using h) (by omega);simpa using this)
   (λh=>by have:=h2 (by simpa using h);simpa using this)
  simp[a,ih]
theorem zyj(c:UInt8)(_h:c.toNat<128):Mh c=UQ c.toNat:=by unfold Mh UQ;rw[SV];simp[<-UInt8.toNat_inj];omega
theorem zw8(c:UInt8)(h:128<=c.toNat):Mh c=false:=by unfold Mh;simp[<-UInt8.toNat_inj];omega
theorem zw9(r:Int)(h:128<=r):UQ r=false:=by unfold UQ;simp;omega
theorem zsS(c:UInt8)(_h:c.toNat<128):Mg c=Sz c.toNat:=by unfold Mg Sz;rw[SV];simp;omega
theorem zvo(c:UInt8)(h:128<=c.toNat):Mg c=false:=by unfold Mg;simp;omega
theorem zvp(r:Int)(h:128<=r):Sz r=false:=by unfold Sz;simp;omega
theorem zxx(c:UInt8)(_h:c.toNat<128):isLet c=Rj c.toNat:=by unfold isLet Rj;rw[SV];simp;omega
theorem zyH(c:UInt8)(h:c.toNat<128):MY c=UR c.toNat:=by unfold MY UR;rw[zsS c h,zxx c h]
theorem zx4(c:UInt8)(h:128<=c.toNat):MY c=false:=by unfold MY isLet Mg;simp;omega
theorem zx5(r:Int)(h:128<=r):UR r=false:=by unfold UR Rj Sz;simp;omega
theorem ZY{F:Nat}{Q:UInt8->Bool}{g:Int->Bool}(hF:F=189\/F=244\/F=245)(C:∀(r:Int)(w:World),Calls prog F #[.int .i32 r] w λe w'=>e=.returned (.bool (g r))/\w'=w)(low:∀c:UInt8,c.toNat<128->Q c=g c.toNat)(high:∀c:UInt8,128<=c.toNat->Q c=false)(rune:∀r:Int,128<=r->g r=false)(s:ByteArray)(w:World):
  Calls prog 188 #[.string s,.func (.func F) #[] #[]] w λe w'=>e=.returned (.int .i64 (s.data.toList.takeWhile Q).length)/\∃pos,w'=w.alloc (.stringIter s pos):=by
 have HC:=eu C;clear C;rcases hF with rfl|rfl|rfl
 all_goals
  go_enter func188,ntmps188;go_wp2_with fail
  go_loopw [5] (λ_ w'=>∃pos:Nat,w'=w.iter s pos/\pos<=s.size/\Hid (∀j(h:j<s.size),j<pos->Q s[j]=true)) (λ_ w'=>s.size-w'.iterPos w.heap.size)
  case atStart=>exact⟨0,rfl,Kc _,eu (λ_ _ h=>by omega)⟩
  case round=>
   obtain⟨pos,rfl,hp,hall⟩:=hrel;by_cases aj:pos<s.size
   .by_cases hb:(s[pos]'aj).toNat<128
    .have gx:∀ty,(Instr.next (.pointer (some ⟨w.heap.size,0,none⟩)) true ty).run prog (w.iter s pos)=_:=λty=>run_next_ascii w s pos ty aj hb
     have nV:=eu (low (s[pos]'aj) hb);clear hb;cases hv:Q s[pos]
     .have dZ:=eu hv;clear hv;go_wp2_with fail;refine(HC.o _ _).mono ?_;rintro e w'⟨rfl,rfl⟩;rw[<-nV.o,dZ.o];go_wp2;go_ret;refine⟨?_,_,rfl⟩;rw[YE s.data.toList pos (by simp;omega) (λj h hj=>hall.o j (by simpa using h) hj) (λh=>dZ.o)];rfl
     .have dZ:=eu hv;clear hv;go_wp2_with fail;refine(HC.o _ _).mono ?_;rintro e w'⟨rfl,rfl⟩;rw[<-nV.o,dZ.o];go_wp2
      go_roundw
      case rel=>
       refine⟨pos+1,rfl,by omega,eu λj h hj=>?_⟩;by_cases e:j=pos
       .subst e;exact dZ.o
       .exact hall.o j h (by omega)
      case measure=>simp;omega
    .have gx:∀ty,(Instr.next (.pointer (some ⟨w.heap.size,0,none⟩)) true ty).run prog (w.iter s pos)=_:=λty=>run_next_any w s pos ty aj
     have dZ:=eu (high _ (by omega:128<=(s[pos]'aj).toNat));have hd:=(decode_high s pos aj (by omega)).1;have tz:=eu (rune ((Utf8.decode s pos).1:Int) (by omega));clear hb hd;go_wp2_with fail;refine(HC.o _ _).mono ?_;rintro e w'⟨rfl,rfl⟩;rw[tz.o];go_wp2;go_ret;refine⟨?_,_,rfl⟩;rw[YE s.data.toList pos (by simp;omega) (λj h hj=>hall.o j (by simpa using h) hj) (λh=>dZ.o)];rfl
   .have gx:∀ty,(Instr.next (.pointer (some ⟨w.heap.size,0,none⟩)) true ty).run prog (w.iter s pos)=_:=λty=>run_next_end w s pos ty aj
    go_wp2;go_ret;refine⟨?_,_,rfl⟩;rw[YE s.data.toList s.size (by simp) (λj h hj=>hall.o j (by simpa using h) (by omega)) (λh=>by simp at h)];rfl
abbrev QH (k:Nat) (s:List UInt8) (p:Int):Value:=.agg #[.int .i64 k,.string ⟨s.toArray⟩,.int .i64 p]
theorem sz(s:ByteArray):s.data.toList.length=s.size:=by simp
theorem TA(s:ByteArray):(⟨s.data.toList.toArray⟩:ByteArray)=s:=by cases s;simp
theorem zrL(s:ByteArray)(w:World)(_hs:s.size<9223372036854775807):
  Calls prog 246 #[.string s] w λe w'=>e=.returned (QH (Pj s.data.toList).1 (Pj s.data.toList).2 0)/\Below w.heap.size w w':=by
 by_cases h:9<s.size
 .have e:Pj s.data.toList=(1,[]):=by simp[Pj,h]
  rw[e];clear e;go_enter func246,ntmps246;go_wp2
  go_returns
  exact⟨rfl,Mi _ _⟩
 .have e:Pj s.data.toList=(3,s.data.toList):=by simp[Pj,h]
  rw[e];clear e;go_enter func246,ntmps246;go_wp2
  go_returns
  exact⟨by rw[QH,TA];rfl,Mi _ _⟩
theorem zwF(s:ByteArray)(w:World):
  Calls prog 243 #[.string s] w λe w'=>e=.returned (QH (Th.word s.data.toList).1 (Th.word s.data.toList).2 0)/\Below w.heap.size w w':=by
 cases h0:s.toList == [108,101,116]
 case true=>
  have e:Th.word s.data.toList=(4,s.data.toList):=by rw[<-mG];simp only[Th.word,SN,Ol,Na,Mx,OK,Nt,h0,Ub,kP]
  rw[e];clear e;go_enter func243,ntmps243;go_wp2
  go_returns
  exact⟨by rw[QH,TA];rfl,Mi _ _⟩
 cases h1:s.toList == [114,101,99]
 case true=>
  have e:Th.word s.data.toList=(4,s.data.toList):=by rw[<-mG];simp only[Th.word,SN,Ol,Na,Mx,OK,Nt,h0,h1,Ua,Ub,kP]
  rw[e];clear e;go_enter func243,ntmps243;go_wp2
  go_returns
  exact⟨by rw[QH,TA];rfl,Mi _ _⟩
 cases h2:s.toList == [105,110]
 case true=>
  have e:Th.word s.data.toList=(4,s.data.toList):=by rw[<-mG];simp only[Th.word,SN,Ol,Na,Mx,OK,Nt,h0,h1,h2,Ua,Ub,T8,kP]
  rw[e];clear e;go_enter func243,ntmps243;go_wp2
  go_returns
  exact⟨by rw[QH,TA];rfl,Mi _ _⟩
 cases h3:s.toList == [99,97,115,101]
 case true=>
  have e:Th.word s.data.toList=(4,s.data.toList):=by rw[<-mG];simp only[Th.word,SN,Ol,Na,Mx,OK,Nt,h0,h1,h2,h3,Ua,Ub,T8,kP]
  rw[e];clear e;go_enter func243,ntmps243;go_wp2
  go_returns
  exact⟨by rw[QH,TA];rfl,Mi _ _⟩
 cases h4:s.toList == [111,102]
 case true=>
  have e:Th.word s.data.toList=(4,s.data.toList):=by rw[<-mG];simp only[Th.word,SN,Ol,Na,Mx,OK,Nt,h0,h1,h2,h3,h4,Ua,T8,kP]
  rw[e];clear e;go_enter func243,ntmps243;go_wp2
  go_returns
  exact⟨by rw[QH,TA];rfl,Mi _ _⟩
 have e:Th.word s.data.toList=(2,s.data.toList):=by rw[<-mG];simp only[Th.word,SN,Ol,Na,Mx,OK,Nt,h0,h1,h2,h3,h4,T8];rfl
 rw[e];clear e;go_enter func243,ntmps243;go_wp2
 go_returns
 exact⟨by rw[QH,TA];rfl,Mi _ _⟩
theorem XB(s:List UInt8)(a b:UInt8):Lib.hasPrefix s [a,b]=(s.take 2 == [a,b]):=by
 cases s with
 |nil=>rfl
 |cons c s=>cases s with
  |nil=>simp[Lib.hasPrefix,List.isPrefixOf]
  |cons d s=>
   rw[SV];simp[Lib.hasPrefix,List.isPrefixOf];constructor
   .rintro⟨rfl,rfl⟩;exact⟨rfl,rfl⟩
   .rintro⟨rfl,rfl⟩;exact⟨rfl,rfl⟩
theorem zjl(l:List UInt8)(c:UInt8):0<=Lib.indexByte l c↔c∈l:=by
 induction l with
 |nil=>simp[Lib.indexByte]
 |cons b l ih=>
  have hg:=Lib.indexByte_ge l c;simp only[Lib.indexByte];by_cases h:b=c
  .simp[h]
  .have h':¬c=b:=λe=>h e.symm
   simp only[uq,h,nt,Mz,h',false_or,<-ih];split<;>omega
variable {l:List UInt8}
theorem zjS(h:(l.take 2 == [45,62]||l.take 2 == [61,61])=true):Ow l=2:=by simp only[Ow,h,kP]
theorem zpO{c:UInt8}{r:List UInt8}(e:l=c::r)(h:(l.take 2 == [45,62]||l.take 2 == [61,61])=false)(h1:0<=Lib.indexByte Xw c):Ow l=1:=by
 subst e;have hc:Xw.contains c=true:=by simpa using(zjl _ _).1 h1
 simp only[Ow,h,Ps,nt,hc,kP]
theorem zrW{c:UInt8}{r:List UInt8}(e:l=c::r)(h:(l.take 2 == [45,62]||l.take 2 == [61,61])=false)(h1:¬0<=Lib.indexByte Xw c):Ow l=0:=by
 subst e;have hc:Xw.contains c=false:=by rw[<-Jc];intro hc;exact h1 ((zjl _ _).2 (by simpa using hc))
 simp only[Ow,h,Ps,nt,hc]
theorem zpe(s:ByteArray)(h:0<s.size):∃r,s.data.toList=s[0]::r:=by
 cases s with
 |mk d=>cases d with
  |mk l=>cases l with
   |nil=>exact absurd h (by decide)
   |cons c r=>exact⟨r,rfl⟩
theorem zkJ(s:ByteArray)(w:World)(h0:0<s.size):
  Calls prog 247 #[.string s] w λe w'=>e=.returned (.int .i64 (Ow s.data.toList))/\w'=w:=by
 obtain⟨r,hr⟩:=zpe s h0;have Hr:=eu hr;clear hr;cases h1:s.data.toList.take 2 == [45,62]
 .have H1:=eu h1;clear h1;cases h2:s.data.toList.take 2 == [61,61]
  .have H2:=eu h2;clear h2;have H0:=eu (show(s.data.toList.take 2 == [45,62]||s.data.toList.take 2 == [61,61])=false by rw[H1.o,H2.o];rfl);go_enter func247,ntmps247;go_wp2_with fail;refine(Tryz.strings_HasPrefix _ _ _).mono ?_;rintro e w'⟨rfl,rfl⟩;rw[show Lib.hasPrefix s.data.toList (ByteArray.mk #[45,62]).data.toList=false from(XB _ _ _).trans H1.o];go_wp2_with fail;refine(Tryz.strings_HasPrefix _ _ _).mono ?_;rintro e w'⟨rfl,rfl⟩;rw[show Lib.hasPrefix s.data.toList (ByteArray.mk #[61,61]).data.toList=false from(XB _ _ _).trans H2.o];go_wp2_with fail;refine(Tryz.strings_IndexByte _ _ _).mono ?_;rintro e w'⟨rfl,rfl⟩;go_wp2_with fail
   .have hw:0<=Lib.indexByte [61,59,40,41,123,125,44,60,62,46,92,43,45,42,47] s[0]:=by assumption
    go_ret;exact⟨by rw[zpO Hr.o H0.o hw];rfl,rfl⟩
   .have hw:Lib.indexByte [61,59,40,41,123,125,44,60,62,46,92,43,45,42,47] s[0]<0:=by assumption
    go_ret;exact⟨by rw[zrW Hr.o H0.o (by show¬0<=Lib.indexByte [61,59,40,41,123,125,44,60,62,46,92,43,45,42,47] s[0];omega)];rfl,rfl⟩
  .have H2:=eu h2;clear h2;have H0:=eu (show(s.data.toList.take 2 == [45,62]||s.data.toList.take 2 == [61,61])=true by rw[H1.o,H2.o];rfl);go_enter func247,ntmps247;go_wp2_with fail;refine(Tryz.strings_HasPrefix _ _ _).mono ?_;rintro e w'⟨rfl,rfl⟩;rw[show Lib.hasPrefix s.data.toList (ByteArray.mk #[45,62]).data.toList=false from(XB _ _ _).trans H1.o];go_wp2_with fail;refine(Tryz.strings_HasPrefix _ _ _).mono ?_;rintro e w'⟨rfl,rfl⟩;rw[show Lib.hasPrefix s.data.toList (ByteArray.mk #[61,61]).data.toList=true from(XB _ _ _).trans H2.o];go_wp2;go_ret;exact⟨by rw[zjS H0.o];rfl,rfl⟩
 .have H1:=eu h1;clear h1;have H0:=eu (show(s.data.toList.take 2 == [45,62]||s.data.toList.take 2 == [61,61])=true by rw[H1.o];rfl);go_enter func247,ntmps247;go_wp2_with fail;refine(Tryz.strings_HasPrefix _ _ _).mono ?_;rintro e w'⟨rfl,rfl⟩;rw[show Lib.hasPrefix s.data.toList (ByteArray.mk #[45,62]).data.toList=true from(XB _ _ _).trans H1.o];go_wp2;go_ret;exact⟨by rw[zjS H0.o];rfl,rfl⟩
theorem zwU(c:UInt8):isLet c=Rj c.toNat:=by unfold isLet Rj;rw[SV];simp;omega
theorem zxV(q:UInt8->Bool)(l:List UInt8):l.take (l.takeWhile q).length=l.takeWhile q:=by
 induction l with
 |nil=>rfl
 |cons c l ih=>by_cases h:q c<;>simp[h,ih]
theorem zwS(q:UInt8->Bool)(s:ByteArray):(s.extract 0 (s.data.toList.takeWhile q).length).data.toList=s.data.toList.takeWhile q:=by rw[Lib.extract_data];simp only[Sb,S0,zxV]
theorem Xz(q:UInt8->Bool)(l:List UInt8):(l.takeWhile q).length<=l.length:=(List.takeWhile_prefix q).length_le
theorem zta{r:List UInt8}{c:UInt8}(e:l=c::r)(h:isLet c=true):Th.first l=Th.word (l.takeWhile MY):=by subst e;simp only[Th.first,h,kP]
theorem zs9{r:List UInt8}{c:UInt8}(e:l=c::r)(h:isLet c=false)(h1:0<(l.takeWhile Mg).length):Th.first l=Pj (l.takeWhile Mg):=by
 subst e;have hd:Mg c=true:=by rw[<-Bool.not_eq_false];intro hc;simp[hc]at h1
 simp only[Th.first,h,hd,kP,Ps,nt]
theorem zwR{r:List UInt8}{c:UInt8}(h1:¬0<((c::r).takeWhile Mg).length):Mg c=false:=by rw[<-Jc];intro hc;simp[hc]at h1
theorem zru{r:List UInt8}{c:UInt8}(e:l=c::r)(h:isLet c=false)(h1:¬0<(l.takeWhile Mg).length)(h2:0<Ow l):Th.first l=(4,l.take (Ow l)):=by subst e;simp only[Th.first,h,zwR h1,Ps,nt];rw[qj]
theorem zs8{r:List UInt8}{c:UInt8}(e:l=c::r)(h:isLet c=false)(h1:¬0<(l.takeWhile Mg).length)(h2:¬0<Ow l):Th.first l=(1,[]):=by subst e;simp only[Th.first,h,zwR h1,Ps,nt];rw[Ji]
theorem zlP(l:List UInt8):Ow l<=l.length:=by
 unfold Ow;split
 .next h=>
  match l,h with
  |[],h=>simp at h
  |[c],h=>simp at h
  |c::d::r,_=>simp
 .cases l with
  |nil=>simp
  |cons c r=>simp only;split<;>simp
theorem V0(s:ByteArray)(h:0<s.size):s.toList.isEmpty=false:=by obtain⟨r,hr⟩:=zpe s h;rw[mG,hr];rfl
theorem zuY(c:UInt8):wrap32 (c.toNat:Int)=c.toNat:=by have:=c.toNat_lt;unfold wrap32;omega
theorem zs7(s:ByteArray)(w:World)(hs:s.size<9223372036854775807):
  Calls prog 190 #[.string s] w λe w'=>e=.returned (QH (Th.first s.data.toList).1 (Th.first s.data.toList).2 0)/\Below w.heap.size w w':=by
 by_cases h0:0<s.size
 .have he:s.toList.isEmpty=false:=V0 s h0;obtain⟨r,hr⟩:=zpe s h0;have Hr:=eu hr;clear hr;have hw:=zuY s[0];cases h1:Rj (wrap32 s[0].toNat)
  .have H1:=eu h1;clear h1;have H2:Hid (isLet s[0]=false):=eu (by rw[zwU,<-hw];exact H1.o);clear hw;have hle:(s.data.toList.takeWhile Mg).length<=s.size:=by have:=Xz Mg s.data.toList;simpa using this
   have xH:Ow s.data.toList<=s.size:=by have:=zlP s.data.toList;simpa using this
   obtain⟨n,hn⟩:∃n,(s.data.toList.takeWhile Mg).length=n:=⟨_,rfl⟩;obtain⟨m,hm⟩:∃m,Ow s.data.toList=m:=⟨_,rfl⟩;rw[hn]at hle;rw[hm]at xH;have Hn:=eu hn;clear hn;have Hm:=eu hm;clear hm;go_enter func190,ntmps190;go_wp2_with fail;refine(Yl _ _).mono ?_;rintro e w'⟨rfl,rfl⟩;rw[H1.o];go_wp2_with fail;refine(ZY (.inr (.inr rfl)) zeh zsS zvo zvp _ _).mono ?_;rintro e w'⟨rfl,pos,rfl⟩;rw[Hn.o];by_cases hd:0<n
   .go_wp2_with fail;refine(zrL _ _ (by rw[ByteArray.size_extract];omega)).mono ?_;rintro e w1⟨rfl,hb⟩;rw[show(s.extract 0 n).data.toList=s.data.toList.takeWhile Mg from by rw[<-Hn.o];exact zwS _ _];obtain⟨⟨k,t⟩,jI⟩:∃x,Pj (s.data.toList.takeWhile Mg)=x:=⟨_,rfl⟩;rw[jI];have Hk:Hid (Th.first s.data.toList=(k,t)):=eu ((zs9 Hr.o H2.o (by rw[Hn.o];exact hd)).trans jI);clear jI;have B:=(((gH w [.int .i64 0,.string ⟨#[]⟩,.int .i64 0] 135).alloc (.stringIter s pos))).below hb (by simp;omega);have c0:=B.cell 0;have c1:=B.cell 1;have c2:=B.cell 2;have f0:=B.frozen 0;have f1:=B.frozen 1;have f2:=B.frozen 2;simp at c0 c1 c2;have B3:=eu (((B.set 0 (.int .i64 k)).set 1 (.string ⟨t.toArray⟩)).set 2 (.int .i64 0));clear B;go_wp2_with fail;have q0:=B3.o.cell 0;have q1:=B3.o.cell 1;have q2:=B3.o.cell 2;simp at q0 q1 q2;refine mF (v:=QH k t 0) (by simp[results,Tryz.results190,go_sem,q0,q1,q2]) rfl ⟨by rw[Hk.o],?_⟩;exact Pw (Nv (Nv (Nv (qN (qN (IS w _ none) (IS _ _ none)) (Bj none hb)) _ _ (qP _)) _ _ (qP _)) _ _ (qP _))
   .go_wp2_with fail;refine(zkJ _ _ h0).mono ?_;rintro e w1⟨rfl,rfl⟩;rw[Hm.o];by_cases Ag:0<m
    .go_wp2
     go_returns
     refine⟨?_,Pw (qN (IS w _ none) (IS _ _ none))⟩;rw[zru Hr.o H2.o (by rw[Hn.o];exact hd) (by rw[Hm.o];exact Ag),Hm.o];rw[QH,show(⟨(s.data.toList.take m).toArray⟩:ByteArray)=s.extract 0 m from by rw[<-TA (s.extract 0 m),Lib.extract_data];simp];rfl
    .go_wp2
     go_returns
     refine⟨?_,Pw (qN (IS w _ none) (IS _ _ none))⟩;rw[zs8 Hr.o H2.o (by rw[Hn.o];exact hd) (by rw[Hm.o];exact Ag)];rfl
  .have H1:=eu h1;clear h1;have H2:Hid (isLet s[0]=true):=eu (by rw[zwU,<-hw];exact H1.o);clear hw;have hle:(s.data.toList.takeWhile MY).length<=s.size:=by have:=Xz MY s.data.toList;simpa using this
   obtain⟨n,hn⟩:∃n,(s.data.toList.takeWhile MY).length=n:=⟨_,rfl⟩;rw[hn]at hle;have Hn:=eu hn;clear hn;go_enter func190,ntmps190;go_wp2_with fail;refine(Yl _ _).mono ?_;rintro e w'⟨rfl,rfl⟩;rw[H1.o];go_wp2_with fail;refine(ZY (.inr (.inl rfl)) zmr zyH zx4 zx5 _ _).mono ?_;rintro e w'⟨rfl,pos,rfl⟩;rw[Hn.o];go_wp2_with fail;refine(zwF _ _).mono ?_;rintro e w1⟨rfl,hb⟩;rw[show(s.extract 0 n).data.toList=s.data.toList.takeWhile MY from by rw[<-Hn.o];exact zwS _ _];obtain⟨⟨k,t⟩,jI⟩:∃x,Th.word (s.data.toList.takeWhile MY)=x:=⟨_,rfl⟩;rw[jI];have Hk:Hid (Th.first s.data.toList=(k,t)):=eu ((zta Hr.o H2.o).trans jI);clear jI;have B:=(((gH w [.int .i64 0,.string ⟨#[]⟩,.int .i64 0] 135).alloc (.stringIter s pos))).below hb (by simp;omega);have c0:=B.cell 0;have c1:=B.cell 1;have c2:=B.cell 2;have f0:=B.frozen 0;have f1:=B.frozen 1;have f2:=B.frozen 2;simp at c0 c1 c2;have B3:=eu (((B.set 0 (.int .i64 k)).set 1 (.string ⟨t.toArray⟩)).set 2 (.int .i64 0));clear B;go_wp2_with fail;have q0:=B3.o.cell 0;have q1:=B3.o.cell 1;have q2:=B3.o.cell 2;simp at q0 q1 q2;refine mF (v:=QH k t 0) (by simp[results,Tryz.results190,go_sem,q0,q1,q2]) rfl ⟨by rw[Hk.o],?_⟩;exact Pw (Nv (Nv (Nv (qN (qN (IS w _ none) (IS _ _ none)) (Bj none hb)) _ _ (qP _)) _ _ (qP _)) _ _ (qP _))
 .have he:s.toList.isEmpty=true:=by rw[mG,List.isEmpty_iff,<-Pl,sz];omega
  go_enter func190,ntmps190;go_wp2
  go_returns
  refine⟨?_,Mi _ _⟩;rw[List.isEmpty_iff,mG]at he;rw[he];rfl
end
end Go.Proofs.YtgahgkddaljmkaaGreatDoor
