/- Mach26 .. Scan3 -/
import Derived.Test.YtgahgkddaljmkaaGreatDoorT2
import Derived.Lib.RuneCount
import Derived.Test.YtgahgkddaljmkaaGreatDoorT0
set_option maxRecDepth 100000
set_option maxHeartbeats 4000000
namespace Go.Proofs.YtgahgkddaljmkaaGreatDoor
open Tryz
open Go.RowKit
attribute [local go_sem ↓] Go.wp_at_zero Go.wp_at_succ
def waits (x:Int):Option (Nat × Nat):=if -4000000000<=x/\x<0 then some (((-x-1)%4).toNat,((-x-1)/4).toNat) else none
variable {x:Int}{k:Nat}
theorem zuN{a:Nat}(h:waits x=some (k,a)):x=Mk k a/\k<4/\a<=1000000000:=by
 unfold waits at h;split at h
 ·simp only[zyP,zzL]at h;obtain ⟨rfl,rfl⟩:=h;unfold Mk;omega
 ·cases h
def MSt.za1 (sl:List Nat):Nat->MSt->Option (Except Nat MSt)
 |0,_=>none
 |g+1,m=>
  if m.s.low+m.s.half<=m.s.top+1 then some (.ok { m with o:={ m.o with next:=-1 } }) else
  match m.s.ws[m.s.top+1]? with
  |none=>none
  |some x=>
   match waits x with
   |none=>none
   |some (k,a)=>
    if k=0 then (match m.s.update with|none=>none|some s'=>MSt.za1 sl g { m with s:=s' })
    else if k=1 then (match m.s.ws[m.s.top]? with
     |none=>none
     |some v=>(Sto.pop { m.s with ws:=m.s.ws.set (m.s.top+1) v } 1).map fun s'=>.ok { m with s:=s',o:={ m.o with next:=a } })
    else if k=2 then (match m.za5 sl a with
     |none=>none
     |some (.error j)=>some (.error j)
     |some (.ok q)=>if q.1=true then some (.ok q.2) else MSt.za1 sl g q.2)
    else none
variable {m:MSt}{sl:List Nat}{c:Nat}
theorem zra{m':MSt}(h:m.za5 sl c=some (.ok (false,m'))):m'.o=m.o:=by
 unfold MSt.za5 at h;split at h
 ·cases h
 ·split at h
  ·cases h
  ·split at h
   ·cases h
   ·split at h
    ·split at h
     ·cases h
     ·cases h
     ·next hx=>cases h;exact zqt hx
    ·split at h
     ·cases h
     ·split at h
      ·cases h
      ·cases h
      ·cases h
variable {wb:Nat}
theorem zsL{tp:Nat}:∀ (W:World) (v:Value),(W.setCell ⟨wb,tp+1,none⟩ v).cell? ⟨wb,tp,none⟩=W.cell? ⟨wb,tp,none⟩:=
 fun W v=>by apply World.cell?_setCell_other;simp
variable {w:World}{mb:Nat}{fv:Value}{r:Except Nat MSt}
theorem zlq{g:Nat}(h:MAt w mb wb fv m)(hB:BAt w mb wb fv m.o.pb sl)(hb:MSt.za1 sl g m=some r):
  Calls prog 129 #[.pointer (some ⟨mb,0,none⟩)] w fun e w'=>Ends w mb wb fv r e w':=by
 have HH:=zab h;have HB:=zab hB;have HR:=zab hb;clear h hB hb;go_enter func129,ntmps129
 go_wp2_with fail
 go_loopg [2] g (fun gk _ wr=>∃ q:MSt,MAt wr mb wb fv q/\q.o.pb=m.o.pb/\MSt.za1 sl gk q=some r/\Fr (MB mb wb fv) w wr)
 case atStart=>exact ⟨m,HH.o,rfl,HR.o,Fr.refl _ _⟩
 case round=>
  obtain ⟨q,hq,iN,hg,ak⟩:=hrel;cases gk with
  |zero=>cases hg
  |succ k=>
   obtain ⟨⟨ws,hf,lo,fr,tp⟩,o,fns⟩:=q;rw[MSt.za1]at hg;simp only at hg iN;have hlen:ws.length<=1000000:=hq.sat.len;have tj:tp<=1000000:=hq.sat.top;have o5:lo<=1000000:=hq.sat.low;have Ez:hf<=1000000:=hq.sat.half;have c0:=hq.sat.c0;have c4:=hq.sat.c4;simp only at c0 c4;have CE:=zab (fun n:Nat=>zhJ (hq.drewN n).sat);simp only[zzq]at CE;have HQ:=zab hq;have cY:=zab ak;have lV:=zab iN;have uS:IntKind.i64.wrap ((tp:Int)+1)=(tp:Int)+1:=zbc _ (by omega) (by omega);clear hq ak iN;split at hg
   ·next cJ=>
    have r8:¬ ((tp:Int)+1<(lo:Int)+(hf:Int)):=by omega
    obtain rfl:=zyU hg;clear hg cJ;go_wp2_with fail
    go_quiet ((go_at_call 78;exact Calls.quiet_of (CE.o _)))
    have H1:=zab (HQ.o.drewN nq);have F1:=zab (cY.o.drewN nq);generalize wr.drewN nq=w1 at H1 F1;clear c0 c4;have d10:=H1.o.sat.c10;have df:=H1.o.sat.blk.frozen 10;go_wp2_with fail
    first|go_end0|refine bodyPost_ret (results_none rfl _ _ _) rfl ?_
    have f2:Fr (M2 mb wb) w1 (w1.setCell ⟨mb,10,none⟩ (.int .i64 (-1))):=(Fr.refl _ _).set _ _ (.inl (.inl rfl));exact ⟨F1.o.trans (f2.zc9 fv),rfl,H1.o.sat.zgs (-1),H1.o.fat.fr f2,H1.o.fl,H1.o.fuel⟩
   ·next cJ=>
    have r8:(tp:Int)+1<(lo:Int)+(hf:Int):=by omega
    split at hg
    ·cases hg
    ·next x hx=>
     split at hg
     ·cases hg
     ·next k1 a hw=>
      obtain ⟨rfl,kj,xh⟩:=zuN hw;have dk:=(zyL.1 hx).1;have CK:=zab (fun W:World=>zoV k1 a W kj xh);have CW:=zab (fun W:World=>znd k1 a W kj xh);obtain ⟨z,hz⟩:∃ z,Mk k1 a=z:=⟨_,rfl⟩;rw[hz]at CK CW hx;have cx:wr.cell? ⟨wb,tp+1,none⟩=some (.int .i64 z):=HQ.o.sat.word hx;have aA:(tp:Int)+1<(ws.length:Int):=by omega
      have kf:(0:Int)<=(tp:Int)+1:=by omega
      have HX:=zab hx;clear hw hz cJ hx;go_wp2_with fail
      go_quiet ((go_at_call 78;exact Calls.quiet_of (CE.o _)))
      have H1:=zab (HQ.o.drewN nq);have F1:=zab (cY.o.drewN nq);generalize wr.drewN nq=w1 at H1 F1;clear c0 c4 cx;have c0:=H1.o.sat.c0;have c4:=H1.o.sat.c4;have cx:w1.cell? ⟨wb,tp+1,none⟩=some (.int .i64 z):=H1.o.sat.word HX.o;simp only at c0 c4;go_wp2_with fail
      go_quiet (fail)
      have H2:=zab (H1.o.drewN nq);have F2:=zab (F1.o.drewN nq);generalize w1.drewN nq=w2 at H2 F2;clear c0 c4 cx;go_wp2_with fail
      refine (CK.o _).mono ?_;rintro e w3 ⟨rfl,bL⟩;subst w3;split at hg
      ·next hk=>
       subst hk;split at hg
       ·cases hg
       ·next s' hu=>
        have HU:=zab hu;have HG:=zab hg;clear hu hg;go_wp2_with fail
        refine (zsh H2.o.sat HU.o).mono ?_;rintro e w4 ⟨rfl,h4,f4⟩;have H4:=zab h4;have F4:=zab f4;clear h4 f4;go_wp2_with fail
        go_roundg k
        case measure=>omega
        case rel=>exact ⟨_,H2.o.fr2 H4.o F4.o,lV.o,HG.o,F2.o.trans (F4.o.zc9 fv)⟩
      ·next dF=>
       split at hg
       ·next hk=>
        subst hk;split at hg
        ·cases hg
        ·next v hv=>
         simp only[zyX]at hg;obtain ⟨s',jt,rfl⟩:=hg;have kE:=zab jt;have c0:=H2.o.sat.c0;have c4:=H2.o.sat.c4;have cv:w2.cell? ⟨wb,tp,none⟩=some (.int .i64 v):=H2.o.sat.word hv;have cx:w2.cell? ⟨wb,tp+1,none⟩=some (.int .i64 z):=H2.o.sat.word HX.o;have cf:=H2.o.sat.zeC.frozen (tp+1);have fP:=zcj H2.o.sat.ne;have sM:=zsL (wb:=wb) (tp:=tp);have dJ:=(zyL.1 hv).1;have bD:(tp:Int)<(ws.length:Int):=by omega
         simp only at c0 c4;clear jt hv;go_wp2_with fail
         go_region_held3 (fun W=>W.cell? ⟨mb,0,none⟩=some (.slice (some ⟨wb,0,none⟩) ws.length ws.length)/\W.cell? ⟨mb,4,none⟩=some (.int .i64 tp)/\W.cell? ⟨wb,tp,none⟩=some (.int .i64 v)) (first|go_keep|(refine ⟨?_,?_,?_⟩ <;> first|assumption|(rw[fP];assumption)|(rw[sM];assumption))) (fail)
         all_goals
          have H5:=zab (H2.o.sat.zcB (tp+1) v).drew;have F5:Hid (Fr (M2 mb wb) w2 ((w2.setCell ⟨wb,tp+1,none⟩ (.int .i64 v)).drew)):=zab ((Fr.refl _ _).set _ _ (.inl (.inr rfl))).drew;generalize (w2.setCell ⟨wb,tp+1,none⟩ (.int .i64 v)).drew=w5 at H5 F5;clear c0 c4 cv cx cf fP sM;go_wp2_with fail
          refine (Sto.zbQ H5.o kE.o).mono ?_;rintro e w6 ⟨rfl,h6,f6⟩;have H6:=zab h6;have F6:=zab (F5.o.trans f6);clear h6 f6;go_wp2_with fail
          refine (CW.o _).mono ?_;rintro e w7 ⟨rfl,og⟩;subst w7;have d10:=H6.o.c10;have df:=H6.o.blk.frozen 10;go_wp2_with fail
          first|go_end0|refine bodyPost_ret (results_none rfl _ _ _) rfl ?_
          have f7:Fr (M2 mb wb) w2 (w6.setCell ⟨mb,10,none⟩ (.int .i64 a)):=F6.o.set _ _ (.inl (.inl rfl));exact ⟨F2.o.trans (f7.zc9 fv),rfl,H6.o.zgs a,H2.o.fat.fr f7,H2.o.fl,H2.o.fuel⟩
       ·next cK=>
        split at hg
        ·next hk=>
         subst hk;have iN:=lV.o;obtain ⟨d,hd⟩:∃ d,(⟨⟨ws,hf,lo,fr,tp⟩,o,fns⟩:MSt).za5 sl a=some d:=by
          cases hd:(⟨⟨ws,hf,lo,fr,tp⟩,o,fns⟩:MSt).za5 sl a with
          |none=>rw[hd]at hg;cases hg
          |some d=>exact ⟨d,rfl⟩
         rw[hd]at hg;have gA:Hid (BAt w2 mb wb fv o.pb sl):=zab (by rw[iN];exact HB.o.fr F2.o);have CP:=zab (zsv H2.o gA.o hd xh);have HD:=zab hd;clear hd iN;go_wp2_with fail
         refine (CW.o _).mono ?_;rintro e w3 ⟨rfl,bL⟩;subst w3;go_wp2_with fail
         refine CP.o.mono ?_;cases d with
         |error j=>
          obtain rfl:=zyU hg;rintro e w4 ⟨f4,rfl,h4⟩;exact ⟨rfl,F2.o.trans f4,rfl,h4⟩
         |ok q=>
          obtain ⟨b,m'⟩:=q;rintro e w4 ⟨f4,rfl,h4⟩;have F4:=zab (F2.o.trans f4);have H4:=zab h4;clear f4 h4;cases b with
          |true=>
           obtain rfl:=zyU hg;go_wp2_with fail
           first|go_end0|refine bodyPost_ret (results_none rfl _ _ _) rfl ?_
           exact ⟨F4.o,rfl,H4.o⟩
          |false=>
           have HG:Hid (MSt.za1 sl k m'=some r):=zab (by simpa using hg);have HO:=zab (zra HD.o);clear hg;go_wp2_with fail
           go_roundg k
           case measure=>omega
           case rel=>exact ⟨_,H4.o,by rw[HO.o];exact lV.o,HG.o,F4.o⟩
        ·cases hg
def MSt.ztg (m:MSt):Nat:=m.s.low+m.s.half+1-m.s.top
def MSt.zcy (m:MSt) (sl:List Nat) (a:Nat):Option (Except Nat MSt):=
 match m.s.head a with
 |none=>none
 |some y=>if y%16=3 then some (.error 5) else
  match m.s.zfJ sl a with
  |none=>none
  |some l=>if l=0 then m.zdy else MSt.za1 sl m.ztg m
def MSt.enter (m:MSt) (sl:List Nat):Option (Except Nat MSt):=
 match m.s.nodeAt 0 with
 |none=>none
 |some (a,y)=>if y%16=4 then (if m.s.ws.length<m.s.top then none else MSt.zcy { m with s:={ m.s with ws:=m.s.ws.set m.s.top (y/65536) } } sl (y/65536).toNat) else m.zcy sl a
theorem znM(h:MAt w mb wb fv m)(hB:BAt w mb wb fv m.o.pb sl)(hb:m.enter sl=some r):
  Calls prog 77 #[.pointer (some ⟨mb,0,none⟩)] w fun e w'=>Ends w mb wb fv r e w':=by
 unfold MSt.enter at hb;split at hb
 ·cases hb
 rename_i a y ha;obtain ⟨hx,hh⟩:=Sto.zaP ha;obtain ⟨hy,aT,bE,aU⟩:=Sto.zaU hh;have CA:=zab (zaA (d:=0) h.sat _ hx);have CK:=zab (fun W:World=>za4 y W aT bE);have HH:=zab h;have HB:=zab hB;have HY:=zab hy;have eo:(a:Int)<(m.s.ws.length:Int):=by omega
 have hlen:m.s.ws.length<=1000000:=h.sat.len;split at hb
 focus
  rename_i hk;split at hb
  ·cases hb
  rename_i aj;have CW:=zab (fun W:World=>zbw y W aT bE);rw[hk]at CK;obtain ⟨b,iC⟩:∃ b:Nat,y/65536=b:=⟨(y/65536).toNat,by omega⟩;rw[iC]at CW hb;rw[zy2]at hb;have cu:=(zyL.1 hx).1;have Fc:(m.s.top:Int)<(m.s.ws.length:Int):=by omega
  have Dc:Hid (m.s.ws[m.s.top]?=some (a:Int)):=zab hx;clear h hB ha hx hh hy aU aT bE hk iC;go_enter func77,ntmps77
  go_wp2_with fail
  refine CA.o.mono ?_;rintro e w1 ⟨rfl,k1,aD⟩;have H1:Hid (MAt w1 mb wb fv m):=zab (by rw[aD];exact HH.o.drewN k1);have F1:Hid (Fr (MB mb wb fv) w w1):=zab (by rw[aD];exact (Fr.refl _ _).drewN k1);clear aD;have c0:=H1.o.sat.c0;have cy:=H1.o.sat.word HY.o;go_wp2_with fail
  refine (CK.o _).mono ?_;rintro e w2 ⟨rfl,aB⟩;subst w2;go_wp2_with fail
  refine (CW.o _).mono ?_;rintro e w2 ⟨rfl,aB⟩;subst w2;clear cy;have c4:=H1.o.sat.c4;have ct:=H1.o.sat.word Dc.o;have cf:=H1.o.sat.zeC.frozen m.s.top;have fP:=zcj H1.o.sat.ne;go_wp2_with fail
  go_region_held3 (fun W=>W.cell? ⟨mb,0,none⟩=some (.slice (some ⟨wb,0,none⟩) m.s.ws.length m.s.ws.length)/\W.cell? ⟨mb,4,none⟩=some (.int .i64 m.s.top)) (go_keep) (fail)
  all_goals
   have H5:=zab (H1.o.sat.zcB m.s.top b).drew;have F5:Hid (Fr (M2 mb wb) w1 ((w1.setCell ⟨wb,m.s.top,none⟩ (.int .i64 b)).drew)):=zab ((Fr.refl _ _).set _ _ (.inl (.inr rfl))).drew;generalize (w1.setCell ⟨wb,m.s.top,none⟩ (.int .i64 b)).drew=w3 at H5 F5;have H3:=zab (H1.o.fr2 H5.o F5.o);have F3:=zab (F1.o.trans (F5.o.zc9 fv));clear c0 c4 ct cf fP H5 F5;have pD:=HB;obtain ⟨m2,jo⟩:∃ m2:MSt,({ m with s:={ m.s with ws:=m.s.ws.set m.s.top (b:Int) } }:MSt)=m2:=⟨_,rfl⟩;have jb:m2.o=m.o:=by rw[<-jo]
   rw[<-jb]at pD;rw[jo]at hb H3;clear jo jb
 rotate_right
 focus
  rename_i hk;have kj:(y%16 == 4)=false:=by rw[beq_eq_false_iff_ne];exact hk
  generalize y%16=ky at CK kj hk;clear h hB ha hx hh hy aU aT bE hk;go_enter func77,ntmps77
  go_wp2_with fail
  refine CA.o.mono ?_;rintro e w1 ⟨rfl,k1,aD⟩;have H1:Hid (MAt w1 mb wb fv m):=zab (by rw[aD];exact HH.o.drewN k1);have F1:Hid (Fr (MB mb wb fv) w w1):=zab (by rw[aD];exact (Fr.refl _ _).drewN k1);clear aD;have c0:=H1.o.sat.c0;have cy:=H1.o.sat.word HY.o;go_wp2_with fail
  refine (CK.o _).mono ?_;rintro e w2 ⟨rfl,aB⟩;subst w2;clear c0 cy;have pD:=HB;have H3:=H1;have F3:=F1;generalize m=m2 at hb pD H3;generalize a=b at hb
 all_goals
  unfold MSt.zcy at hb;split at hb
  ·cases hb
  ·next z hz=>
   obtain ⟨tH,bq,aP,pr⟩:=Sto.zaU hz;have ml:=zab (fun W:World=>za4 z W bq aP);have yp:(b:Int)<((m2).s.ws.length:Int):=by omega
   have HZ:=zab tH;clear hz tH bq aP pr;split at hb
   ·next dz=>
    obtain rfl:=zyU hb;rw[dz]at ml;clear hb dz;go_wp2_with fail
    go_loopg [33] ((m2).o.fuel+1) (fun gk _ wr=>∃ q:MSt,MAt wr mb wb fv q/\q.s=(m2).s/\q.o.fuel+1=gk/\Fr (MB mb wb fv) w wr)
    case atStart=>exact ⟨m2,H3.o,rfl,rfl,F3.o⟩
    case round=>
     obtain ⟨q,hq,hs,hg,ak⟩:=hrel;have c0:=hq.sat.c0;rw[hs]at c0;have cz:=hq.sat.word (by rw[hs];exact HZ.o);have HQ:=zab hq;have HS:=zab hs;have HG:=zab hg;have cY:=zab ak;clear hq hs hg ak;go_wp2_with fail
     refine (ml.o _).mono ?_;rintro e w5 ⟨rfl,dK⟩;subst w5;clear c0 cz;go_wp2_with fail
     refine (zl7 HQ.o).mono ?_;unfold MSt.zsJ;split
     ·rintro e w6 ⟨f6,rfl,h6⟩;exact ⟨rfl,cY.o.trans f6,rfl,h6⟩
     ·next aH=>
      have uf:=zab aH;clear aH;rintro e w6 ⟨f6,rfl,h6⟩;have H6:=zab h6;have F6:=zab (cY.o.trans f6);clear f6 h6;go_wp2_with fail
      go_roundg (gk-1)
      case measure=>have:=HG.o;omega
      case rel=>exact ⟨_,H6.o,HS.o,by have:=HG.o;have:=uf.o;simp only;omega,F6.o⟩
   ·next dz=>
    have lj:(z%16 == 3)=false:=by rw[beq_eq_false_iff_ne];exact dz
    generalize z%16=kz at ml lj dz;split at hb
    ·cases hb
    ·next l hl=>
     have CL:=zab (fun (W:World) (hW:MAt W mb wb fv (m2)) (rM:BAt W mb wb fv (m2).o.pb sl)=>zjp hW rM hl);clear hl;go_wp2_with fail
     go_loopg [33] 1 (fun _ _ wr=>MAt wr mb wb fv (m2)/\Fr (MB mb wb fv) w wr)
     case atStart=>exact ⟨H3.o,F3.o⟩
     case round=>
      obtain ⟨hq,ak⟩:=hrel;have c0:=hq.sat.c0;have cz:=hq.sat.word HZ.o;have HQ:=zab hq;have cY:=zab ak;clear hq ak;go_wp2_with fail
      refine (ml.o _).mono ?_;rintro e w5 ⟨rfl,dK⟩;subst w5;clear c0 cz;go_wp2_with fail
      refine (CL.o _ HQ.o (pD.o.fr cY.o)).mono ?_;rintro e w6 ⟨rfl,k6,oe⟩;have H6:Hid (MAt w6 mb wb fv (m2)):=zab (by rw[oe];exact HQ.o.drewN k6);have F6:Hid (Fr (MB mb wb fv) w w6):=zab (by rw[oe];exact cY.o.drewN k6);clear oe;split at hb;rename_i da;subst da;have CB:=zab (zns H6.o hb)
      rotate_left
      rename_i da;have xG:(l == 0)=false:=by rw[beq_eq_false_iff_ne];exact da
      have CB:=zab (zlq H6.o (pD.o.fr F6.o) hb)
      all_goals
       clear hb;go_wp2_with fail
       refine CB.o.mono ?_;cases r with
       |error j=>
        rintro e w7 ⟨f7,rfl,h7⟩;exact ⟨rfl,F6.o.trans f7,rfl,h7⟩
       |ok m'=>
        rintro e w7 ⟨f7,rfl,h7⟩;have H7:=zab h7;have F7:=zab (F6.o.trans f7);clear f7 h7;go_wp2_with fail
        first|go_end0|refine bodyPost_ret (results_none rfl _ _ _) rfl ?_
        exact ⟨F7.o,rfl,H7.o⟩
def armV (t c b:Nat):Value:=.agg #[.int .i64 t,.int .i64 c,.int .i64 b]
theorem MAt.zc3(h:MAt w mb wb fv m)(hk:w.heap.size<=k):¬ MB mb wb fv k:=by
 rintro (h1|h1|h1)
 ·have:=h.sat.blk.lt;omega
 ·have:=h.sat.zeC.lt;omega
 ·rcases h.fat with ⟨h2,_⟩|⟨fb,cap,sp,h2,h3⟩
  ·rw[h2]at h1;cases h1
  ·rw[h2]at h1;have:=h3.1.1.lt;have h4:fb=k:=by simpa [Value.ownBlock] using h1
   omega
def MSt.zqM (m:MSt) (b:Nat):Option MSt:=
 match m.s.nodeAt 0 with
 |none=>none
 |some (a,y)=>
  match m.s.pop 1 with
  |none=>none
  |some s2=>if s2.ws.length<a+1+cnt y then none else
   match s2.zek (s2.words (a+1) (cnt y)) with
   |none=>none
   |some s3=>some { m with s:=s3,o:={ m.o with next:=b } }
def MSt.split (m:MSt) (c b:Nat):Option (Except Nat MSt):=
 match m.s.nodeAt 0 with
 |none=>none
 |some (_,y)=>if c=cnt y then aft (m.zdI c) fun m1=>(m1.zqM b).map .ok else some (.error 3)
variable {s s':Sto}
theorem zyt(h:s.pop c=some s'):s'.ws=s.ws:=by
 unfold Sto.pop at h;split at h
 ·obtain rfl:=zyU h;rfl
 ·cases h
variable {t b:Nat}
theorem zuv(h:MAt w mb wb fv m)(hb:m.split c b=some r):
  Calls prog 209 #[.pointer (some ⟨mb,0,none⟩),armV t c b] w fun e w'=>Ends w mb wb fv r e w':=by
 unfold MSt.split at hb;split at hb
 ·cases hb
 ·next a y ha=>
  obtain ⟨hx,hh⟩:=Sto.zaP ha;obtain ⟨hy,aT,bE,aU⟩:=Sto.zaU hh;have h1:=h.alloc (.cells #[.int .i64 t,.int .i64 c,.int .i64 b] 290);have hB:=Blk.new w [.int .i64 t,.int .i64 c,.int .i64 b] 290;have f1:Fr (MB mb wb fv) w (w.alloc (.cells #[.int .i64 t,.int .i64 c,.int .i64 b] 290)):=(Fr.refl _ _).alloc _;have bu:¬ MB mb wb fv w.heap.size:=h.zc3 (zyN _);have CC:=zab (fun W:World=>za3 y W aT bE);rw[zh9 aT]at CC;have aN:=zf2 y;have eo:(a:Int)<(m.s.ws.length:Int):=by omega
  have CA:=zab (fun (W:World) (hW:MAt W mb wb fv m) (n:Nat)=>zaA (d:=0) (hW.drewN n).sat _ hx);have HH:=zab h;have H1:=zab h1;have B1:=zab hB;have F1:=zab f1;have HY:=zab hy;have bW:=zab bu;clear h ha hx hy hh aT bE aU h1 hB f1 bu;go_enter func209,ntmps209
  unfold armV;go_wp2_with fail
  generalize w.alloc (.cells #[.int .i64 t,.int .i64 c,.int .i64 b] 290)=w1 at H1 F1 B1 ⊢;have c0:=H1.o.sat.c0;have cy:=H1.o.sat.word HY.o;generalize cnt y=k at *
  go_quiet ((first|(go_at_call 82;exact Calls.quiet_of (CA.o _ H1.o _))|(go_at_call 85;exact Calls.quiet_of_same (CC.o _))))
  have H2:=zab (H1.o.drewN nq);have F2:=zab (F1.o.drewN nq);have B2:=zab ((Fr.blk (K:=MB mb wb fv) B1.o ((Fr.refl _ _).drewN nq) bW.o));generalize w1.drewN nq=w2 at H2 F2 B2;clear c0 cy;have q1:=Blk.cell B2.o 1;simp at q1;split at hb
  ·next rW=>
   subst rW;unfold aft at hb;split at hb
   ·cases hb
   ·next k2 hn=>
    obtain rfl:=zyU hb;have CN:=zab (zaW H2.o hn);clear hn hb;go_wp2_with fail
    refine CN.o.mono ?_;rintro e w3 ⟨f3,rfl,h3⟩;exact ⟨rfl,F2.o.trans f3,rfl,h3⟩
   ·next m1 hn=>
    simp only[zyX]at hb;obtain ⟨m2,h2,rfl⟩:=hb;unfold MSt.zqM at h2;split at h2
    ·cases h2
    ·next a1 y1 gm=>
     split at h2
     ·cases h2
     ·next s2 jt=>
      split at h2
      ·cases h2
      ·next aJ=>
       split at h2
       ·cases h2
       ·next s3 js=>
        obtain rfl:=zyU h2;obtain ⟨ee,sq⟩:=Sto.zaP gm;obtain ⟨hz,bq,aP,oR⟩:=Sto.zaU sq;have xX:=zyt jt;have CN:=zab (zaW H2.o hn);have eR:=zab ee;have HZ:=zab (And.intro hz (And.intro bq (And.intro aP (show a1+1+cnt y1<=m1.s.ws.length by rw[<-xX];omega))));have fZ:Hid (a1+1+cnt y1<=s2.ws.length):=zab (by omega);have kE:=zab jt;have oB:=zab js;have Ga:=zab xX;have Ek:=zf2 y1;clear gm jt js ee sq hz bq aP oR hn h2 aJ xX;go_wp2_with fail
        refine CN.o.mono ?_;rintro e w3 ⟨f3,rfl,h3⟩;have H3:=zab h3;have F3:=zab (F2.o.trans f3);have B3:=zab (Fr.blk B2.o f3 bW.o);clear h3 f3 q1;have Bm:=zab (fun n:Nat=>zaA (d:=0) (H3.o.drewN n).sat _ eR.o);have CF:=zab (fun n:Nat=>zcA (H3.o.drewN n).sat a1 y1 HZ.o.1 HZ.o.2.1 HZ.o.2.2.1 HZ.o.2.2.2);go_wp2_with fail
        go_quiet ((first|(go_at_call 82;exact Calls.quiet_of (Bm.o _))|(go_at_call 135;exact Calls.quiet_of (CF.o _))))
        have H4:=zab (H3.o.drewN nq);have F4:=zab (F3.o.drewN nq);have B4:=zab ((Fr.blk (K:=MB mb wb fv) B3.o ((Fr.refl _ _).drewN nq) bW.o));generalize w3.drewN nq=w4 at H4 F4 B4;go_wp2_with fail
        refine (Sto.zbQ H4.o.sat kE.o).mono ?_;rintro e w5 ⟨rfl,h5,f5⟩;have H5:=zab h5;have F5:=zab f5;clear h5 f5;go_wp2_with fail
        refine (Sto.zel H5.o oB.o rfl fZ.o (fun h0=>zbT (by have:=HZ.o.2.2.2;omega))).mono ?_;rintro e w6 ⟨rfl,h6,f6⟩;have H6:=zab h6;have F6:=zab (F5.o.trans f6);clear h6 f6;have B6:=zab (Fr.blk B4.o (F6.o.zc9 fv) bW.o);have q2:=Blk.cell B6.o 2;simp at q2;have d10:=H6.o.c10;have df:=H6.o.blk.frozen 10;go_wp2_with fail
        first|go_end0|refine bodyPost_ret (results_none rfl _ _ _) rfl ?_
        have f7:Fr (M2 mb wb) w4 (w6.setCell ⟨mb,10,none⟩ (.int .i64 b)):=F6.o.set _ _ (.inl (.inl rfl));exact ⟨F4.o.trans (f7.zc9 fv),rfl,H6.o.zgs b,H4.o.fat.fr f7,H4.o.fl,H4.o.fuel⟩
  ·next rW=>
   obtain rfl:=zyU hb;have aH:(c:Int)≠(k:Int):=by omega
   have jq:((c:Int) == (k:Int))=false:=by rw[beq_eq_false_iff_ne];exact aH
   have EW:((c:Int) != (k:Int))=true:=by rw[bne,jq];rfl
   clear hb rW;go_wp2_with fail
   refine (zce 3 _).mono ?_;rintro e w3 ⟨rfl,bL⟩;subst w3;exact ⟨rfl,F2.o,rfl,_,H2.o⟩
def zgI (w:World) (mb wb:Nat) (fv av:Value) (zao:List (Nat × Nat × Nat)):Prop:=
 ∃ ab cap,av=.slice (some ⟨ab,0,none⟩) zao.length cap/\ab<w.heap.size/\¬ MB mb wb fv ab/\zao.length<=1000000 /\
  ∀ (i t c b:Nat),zao[i]?=some (t,c,b)->w.cell? ⟨ab,i*3,none⟩=some (.int .i64 t)/\w.cell? ⟨ab,i*3+1,none⟩=some (.int .i64 c)/\w.cell? ⟨ab,i*3+2,none⟩=some (.int .i64 b)
variable {av:Value}{zao:List (Nat × Nat × Nat)}
theorem zgI.fr{w':World}(h:zgI w mb wb fv av zao)(f:Fr (MB mb wb fv) w w'):zgI w' mb wb fv av zao:=by
 obtain ⟨ab,cap,h1,h2,h3,hl,h4⟩:=h;refine ⟨ab,cap,h1,zyS h2 f.size,h3,hl,fun i t c b hi=>?_⟩;have e:∀ j,w'.cell? ⟨ab,j,none⟩=w.cell? ⟨ab,j,none⟩:=fun j=>World.cell?_of_block (w:=w) (f.block ab h2 h3)
 rw[e,e,e];exact h4 i t c b hi
def MSt.zcc (m:MSt) (y:Int):List (Nat × Nat × Nat)->Option (Except Nat MSt)
 |[]=>some (.error 3)
 |(t,c,b)::l=>if (t:Int)=y/65536 then m.split c b else MSt.zcc m y l
def MSt.choose (m:MSt) (zao:List (Nat × Nat × Nat)):Option (Except Nat MSt):=
 match m.s.nodeAt 0 with
 |none=>none
 |some (_,y)=>if y%16=1 then m.zcc y zao else some (.error 3)
theorem zrf(h:MAt w mb wb fv m)(hA:zgI w mb wb fv av zao)(hb:m.choose zao=some r):
  Calls prog 142 #[.pointer (some ⟨mb,0,none⟩),av] w fun e w'=>Ends w mb wb fv r e w':=by
 have HA:=zab hA;obtain ⟨ab,cap,rfl,_,_,xI,_⟩:=hA;unfold MSt.choose at hb;split at hb
 ·cases hb
 ·next a y ha=>
  obtain ⟨hx,hh⟩:=Sto.zaP ha;obtain ⟨hy,aT,bE,aU⟩:=Sto.zaU hh;have CK:=zab (fun W:World=>za4 y W aT bE);have CW:=zab (fun W:World=>zbw y W aT bE);have eo:(a:Int)<(m.s.ws.length:Int):=by omega
  have CA:=zab (fun (n:Nat)=>zaA (d:=0) (h.drewN n).sat _ hx);have c0:=h.sat.c0;have cy:=h.sat.word hy;have HH:=zab h;have HY:=zab hy;clear h ha hx hy hh aT bE aU;go_enter func142,ntmps142
  go_wp2_with fail
  go_quiet ((go_at_call 82;exact Calls.quiet_of (CA.o _)))
  have H2:=zab (HH.o.drewN nq);have F2:Hid (Fr (MB mb wb fv) w (w.drewN nq)):=zab ((Fr.refl _ _).drewN nq);generalize w.drewN nq=w2 at H2 F2;clear c0 cy;go_wp2_with fail
  refine (CK.o _).mono ?_;rintro e w3 ⟨rfl,bL⟩;subst w3;split at hb
  ·next hk=>
   have HR:=zab hb;have HE:Hid (y/65536=y/65536):=zab rfl;rw[hk];clear hb hk CK;go_wp2_with fail
   go_loopg [24] zao.length (fun gk iv wr=>∃ i:Nat,iv=.int .i64 i/\i+gk=zao.length/\MAt wr mb wb fv m/\m.zcc y (zao.drop i)=some r/\Fr (MB mb wb fv) w wr)
   case atStart=>exact ⟨0,rfl,by omega,H2.o,by rw[zzY];exact HR.o,F2.o⟩
   case round=>
    obtain ⟨i,rfl,hi,hq,hc,ak⟩:=hrel;have HQ:=zab hq;have cY:=zab ak;clear hq ak;cases gk with
    |zero=>
     have nP:¬ (i:Int)<(zao.length:Int):=by omega
     rw[zz6 (by omega)]at hc;obtain rfl:=zyU hc;go_wp2_with fail
     refine (zce 3 _).mono ?_;rintro e w3 ⟨rfl,bL⟩;subst w3;exact ⟨rfl,cY.o,rfl,_,HQ.o⟩
    |succ g=>
     have br:i<zao.length:=by omega
     have nP:(i:Int)<(zao.length:Int):=by omega
     have dt:(0:Int)<=(i:Int):=by omega
     obtain ⟨t,c,b,rP⟩:∃ t c b,zao[i]?=some (t,c,b):=⟨_,_,_,zyM br⟩;rw[zzs br,show zao[i]=(t,c,b) from (zyL.1 rP).2,MSt.zcc]at hc;obtain ⟨Dv,dU,he,_,_,_,dA⟩:=HA.o.fr cY.o;obtain ⟨rfl,rfl⟩:ab=Dv/\cap=dU:=by simpa using he
     obtain ⟨k0,k1,k2⟩:=dA i t c b rP;clear dA he;go_wp2_with fail
     have H4:=zab (HQ.o.alloc (.cells #[.int .i64 t,.int .i64 c,.int .i64 b] 290));have B4:=zab (Blk.new wr [.int .i64 t,.int .i64 c,.int .i64 b] 290);have F4:Hid (Fr (MB mb wb fv) w (wr.alloc (.cells #[.int .i64 t,.int .i64 c,.int .i64 b] 290))):=zab (cY.o.alloc _);generalize wr.alloc (.cells #[.int .i64 t,.int .i64 c,.int .i64 b] 290)=w4 at H4 B4 F4 ⊢;clear k0 k1 k2;have q0:=Blk.cell B4.o 0;simp at q0;have ic:=hc;generalize AX:y/65536=wy at CW ic
     go_quiet ((go_at_call 84;exact Calls.quiet_of_same (CW.o _)))
     have H5:=zab (H4.o.drewN nq);have F5:=zab (F4.o.drewN nq);have B5:Hid (Blk (w4.drewN nq) wr.heap.size [.int .i64 t,.int .i64 c,.int .i64 b] 290):=zab B4.o;generalize w4.drewN nq=w5 at H5 F5 B5;clear q0;have q0:=Blk.cell B5.o 0;have q1:=Blk.cell B5.o 1;have q2:=Blk.cell B5.o 2;simp at q0 q1 q2;split at ic
     ·next ng=>
      have HS:=zab ic;have tj:((t:Int) == wy)=true:=by rw[beq_iff_eq];exact ng
      clear ic hc AX ng;go_wp2_with fail
      have SA:=zuv (t:=t) H5.o HS.o;unfold armV at SA;refine SA.mono ?_;cases r with
      |error j=>
       rintro e w7 ⟨f7,rfl,h7⟩;exact ⟨rfl,F5.o.trans f7,rfl,h7⟩
      |ok m'=>
       rintro e w7 ⟨f7,rfl,h7⟩;have H7:=zab h7;have F7:=zab (F5.o.trans f7);clear f7 h7 q0 q1 q2;go_wp2_with fail
       first|go_end0|refine bodyPost_ret (results_none rfl _ _ _) rfl ?_
       exact ⟨F7.o,rfl,H7.o⟩
     ·next ng=>
      have tj:((t:Int) == wy)=false:=by rw[beq_eq_false_iff_ne];exact ng
      have HS:Hid (m.zcc y (zao.drop (i+1))=some r):=zab ic;clear ic hc AX q0 q1 q2;go_wp2_with fail
      go_roundg g
      case measure=>omega
      case rel=>exact ⟨i+1,by go_num,by omega,H5.o,HS.o,F5.o⟩
  ·next hk=>
   obtain rfl:=zyU hb;have lj:(y%16 == 1)=false:=by rw[beq_eq_false_iff_ne];exact hk
   have xE:(y%16 != 1)=true:=by rw[bne,lj];rfl
   generalize y%16=ky at hk lj xE ⊢;clear hb CK;go_wp2_with fail
   refine (zce 3 _).mono ?_;rintro e w3 ⟨rfl,bL⟩;subst w3;exact ⟨rfl,F2.o,rfl,_,H2.o⟩
end Go.Proofs.YtgahgkddaljmkaaGreatDoor
namespace Go.Proofs.YtgahgkddaljmkaaGreatDoor
open Tryz
open Go.RowKit
abbrev TYi (a b:TypeId):Prop:=∀ (x:Value) (w:World),(Instr.typeAssert (.iface a x) 154 b true).run prog w=.ok (.tuple #[x,.bool true]) w
abbrev TNi (a b:TypeId) (v:Value):Prop:=∀ (x:Value) (w:World),(Instr.typeAssert (.iface a x) 154 b true).run prog w=.ok (.tuple #[v,.bool false]) w
def TIn (a:TypeId):List (TypeId × Value)->Prop
 |[]=>True
 |(b,v)::l=>TNi a b v/\TIn a l
def il:List (TypeId × Value):=[(248,.agg #[.int .i64 0]),(250,.agg #[.int .i64 0]),(252,.agg #[.int .i64 0]),(254,.agg #[.int .i64 0,.int .i64 0]),(257,.agg #[.int .i64 0,.int .i64 0]),(258,.agg #[.int .i64 0,.int .i64 0]),(260,.agg #[.int .i64 0,.int .i64 0]),(263,.agg #[.int .i64 0]),(267,.agg #[.int .i64 0]),(268,.agg #[.int .i64 0]),(269,.agg #[]),(272,.agg #[.string ⟨#[]⟩]),(185,.agg #[]),(273,.agg #[.int .i64 0])]
theorem zHh:TYi 248 248/\TIn 248 (il.take 0):=⟨fun _ _=>by kernel_rfl,by repeat' (first|exact trivial|refine And.intro (fun _ _=>by kernel_rfl) ?_)⟩
theorem zGZ:TYi 250 250/\TIn 250 (il.take 1):=⟨fun _ _=>by kernel_rfl,by repeat' (first|exact trivial|refine And.intro (fun _ _=>by kernel_rfl) ?_)⟩
theorem zG4:TYi 252 252/\TIn 252 (il.take 2):=⟨fun _ _=>by kernel_rfl,by repeat' (first|exact trivial|refine And.intro (fun _ _=>by kernel_rfl) ?_)⟩
theorem zHg:TYi 254 254/\TIn 254 (il.take 3):=⟨fun _ _=>by kernel_rfl,by repeat' (first|exact trivial|refine And.intro (fun _ _=>by kernel_rfl) ?_)⟩
theorem zHb:TYi 257 257/\TIn 257 (il.take 4):=⟨fun _ _=>by kernel_rfl,by repeat' (first|exact trivial|refine And.intro (fun _ _=>by kernel_rfl) ?_)⟩
theorem zG9:TYi 258 258/\TIn 258 (il.take 5):=⟨fun _ _=>by kernel_rfl,by repeat' (first|exact trivial|refine And.intro (fun _ _=>by kernel_rfl) ?_)⟩
theorem zHe:TYi 260 260/\TIn 260 (il.take 6):=⟨fun _ _=>by kernel_rfl,by repeat' (first|exact trivial|refine And.intro (fun _ _=>by kernel_rfl) ?_)⟩
theorem zHi:TYi 263 263/\TIn 263 (il.take 7):=⟨fun _ _=>by kernel_rfl,by repeat' (first|exact trivial|refine And.intro (fun _ _=>by kernel_rfl) ?_)⟩
theorem zG0:TYi 267 267/\TIn 267 (il.take 8):=⟨fun _ _=>by kernel_rfl,by repeat' (first|exact trivial|refine And.intro (fun _ _=>by kernel_rfl) ?_)⟩
theorem zHd:TYi 268 268/\TIn 268 (il.take 9):=⟨fun _ _=>by kernel_rfl,by repeat' (first|exact trivial|refine And.intro (fun _ _=>by kernel_rfl) ?_)⟩
theorem zG3:TYi 269 269/\TIn 269 (il.take 10):=⟨fun _ _=>by kernel_rfl,by repeat' (first|exact trivial|refine And.intro (fun _ _=>by kernel_rfl) ?_)⟩
theorem zG8:TYi 272 272/\TIn 272 (il.take 11):=⟨fun _ _=>by kernel_rfl,by repeat' (first|exact trivial|refine And.intro (fun _ _=>by kernel_rfl) ?_)⟩
theorem zHc:TYi 185 185/\TIn 185 (il.take 12):=⟨fun _ _=>by kernel_rfl,by repeat' (first|exact trivial|refine And.intro (fun _ _=>by kernel_rfl) ?_)⟩
theorem zHf:TYi 273 273/\TIn 273 (il.take 13):=⟨fun _ _=>by kernel_rfl,by repeat' (first|exact trivial|refine And.intro (fun _ _=>by kernel_rfl) ?_)⟩
theorem zHa:TYi 276 276/\TIn 276 (il.take 14):=⟨fun _ _=>by kernel_rfl,by repeat' (first|exact trivial|refine And.intro (fun _ _=>by kernel_rfl) ?_)⟩
variable {w:World}{mb wb:Nat}{fv:Value}{m:MSt}
theorem MAt.pre(h:MAt w mb wb fv m)(l:List Value)(ty:TypeId):Hid (MAt (w.alloc (.cells l.toArray ty)) mb wb fv m)/\Hid (Blk (w.alloc (.cells l.toArray ty)) w.heap.size l ty)/\Hid (Fr (MB mb wb fv) w (w.alloc (.cells l.toArray ty)))/\Hid (¬ MB mb wb fv w.heap.size):=
 ⟨zab (h.alloc _),zab (Blk.new w l ty),zab ((Fr.refl _ _).alloc _),zab (h.zc3 (zyN _))⟩
end Go.Proofs.YtgahgkddaljmkaaGreatDoor
namespace Go.Proofs.YtgahgkddaljmkaaGreatDoor
open Tryz
open Go.RowKit
attribute [local go_sem ↓] Go.wp_at_zero Go.wp_at_succ
variable {w:World}{mb wb:Nat}{fv:Value}{m:MSt}{r:Except Nat MSt}
theorem zjX{v:Int}(h:MAt w mb wb fv m)(hb:m.zau v=some r):
  Calls prog 81 #[.pointer (some ⟨mb,0,none⟩),.iface 252 (.agg #[.int .i64 v])] w fun e w'=>Ends w mb wb fv r e w':=by
 obtain ⟨i2,i0,i1,-⟩:=zG4;obtain ⟨H1,B1,F1,bW⟩:=h.pre [.int .i64 v] 252;clear h;go_enter func81,ntmps81
 go_wp2_with fail
 generalize w.alloc (.cells #[.int .i64 v] 252)=w1 at H1 F1 B1 ⊢;clear i0 i1 i2;have CX:=zab (zb1 H1.o hb);refine CX.o.mono ?_;cases r with
 |error j=>
  rintro e w7 ⟨f7,rfl,h7⟩;exact ⟨rfl,F1.o.trans f7,rfl,h7⟩
 |ok m'=>
  rintro e w7 ⟨f7,rfl,h7⟩;have H7:=zab h7;have F7:=zab (F1.o.trans f7);clear f7 h7;go_wp2_with fail
  first|go_end0|refine bodyPost_ret (results_none rfl _ _ _) rfl ?_
  exact ⟨F7.o,rfl,H7.o⟩
variable {c:Nat}
theorem zr5{m2:MSt}(h:MAt w mb wb fv m)(hb:m.zci c=some m2)(hr:r=.ok m2):
  Calls prog 81 #[.pointer (some ⟨mb,0,none⟩),.iface 268 (.agg #[.int .i64 c])] w fun e w'=>Ends w mb wb fv r e w':=by
 obtain ⟨i9,i0,i1,i2,i3,i4,i5,i6,i7,i8,-⟩:=zHd;obtain ⟨H1,B1,F1,bW⟩:=h.pre [.int .i64 c] 268;clear h;go_enter func81,ntmps81
 go_wp2_with fail
 generalize w.alloc (.cells #[.int .i64 c] 268)=w1 at H1 F1 B1 ⊢;clear i0 i1 i2 i3 i4 i5 i6 i7 i8 i9;have CX:=zab (zus H1.o hb);subst hr;clear hb;refine CX.o.mono ?_;rintro e w7 ⟨f7,rfl,h7⟩;have H7:=zab h7;have F7:=zab (F1.o.trans f7);clear f7 h7;go_wp2_with fail
 first|go_end0|refine bodyPost_ret (results_none rfl _ _ _) rfl ?_
 exact ⟨F7.o,rfl,H7.o⟩
theorem zjW{q:Except Nat Int}(h:MAt w mb wb fv m)(hb:m.numberAt 0=some q)(hr:r=q.map fun _=>m):
  Calls prog 81 #[.pointer (some ⟨mb,0,none⟩),.iface 269 (.agg #[])] w fun e w'=>Ends w mb wb fv r e w':=by
 obtain ⟨ni,i0,i1,i2,i3,i4,i5,i6,i7,i8,i9,-⟩:=zG3;obtain ⟨H1,B1,F1,bW⟩:=h.pre [] 269;clear h;go_enter func81,ntmps81
 go_wp2_with fail
 generalize w.alloc (.cells #[] 269)=w1 at H1 F1 B1 ⊢;clear i0 i1 i2 i3 i4 i5 i6 i7 i8 i9 ni;have CX:=zab (zaD H1.o hb);subst hr;clear hb;refine CX.o.mono ?_;rintro e w7 ⟨⟨n7,og⟩,h7⟩;have H7:Hid (MAt w7 mb wb fv m):=zab (by rw[og];exact H1.o.drewN n7);have F7:Hid (Fr (MB mb wb fv) w w7):=zab (by rw[og];exact F1.o.drewN n7);clear og;cases q with
 |error j=>
  obtain rfl:e=up j:=h7;exact ⟨rfl,F7.o,rfl,_,H7.o⟩
 |ok v=>
  obtain rfl:e=.returned (.int .i64 v):=h7;go_wp2_with fail
  first|go_end0|refine bodyPost_ret (results_none rfl _ _ _) rfl ?_
  exact ⟨F7.o,rfl,H7.o⟩
theorem zoo{sg:ByteArray}(h:MAt w mb wb fv m)(hb:m.compute sg=some r):
  Calls prog 81 #[.pointer (some ⟨mb,0,none⟩),.iface 272 (.agg #[.string sg])] w fun e w'=>Ends w mb wb fv r e w':=by
 obtain ⟨pw,i0,i1,i2,i3,i4,i5,i6,i7,i8,i9,ni,-⟩:=zG8;obtain ⟨H1,B1,F1,bW⟩:=h.pre [.string sg] 272;clear h;go_enter func81,ntmps81
 go_wp2_with fail
 generalize w.alloc (.cells #[.string sg] 272)=w1 at H1 F1 B1 ⊢;clear i0 i1 i2 i3 i4 i5 i6 i7 i8 i9 ni pw;have CX:=zab (zpl H1.o hb);refine CX.o.mono ?_;cases r with
 |error j=>
  rintro e w7 ⟨f7,rfl,h7⟩;exact ⟨rfl,F1.o.trans f7,rfl,h7⟩
 |ok m'=>
  rintro e w7 ⟨f7,rfl,h7⟩;have H7:=zab h7;have F7:=zab (F1.o.trans f7);clear f7 h7;go_wp2_with fail
  first|go_end0|refine bodyPost_ret (results_none rfl _ _ _) rfl ?_
  exact ⟨F7.o,rfl,H7.o⟩
variable {sl:List Nat}
theorem zr4(h:MAt w mb wb fv m)(hB:BAt w mb wb fv m.o.pb sl)(hb:m.enter sl=some r):
  Calls prog 81 #[.pointer (some ⟨mb,0,none⟩),.iface 185 (.agg #[])] w fun e w'=>Ends w mb wb fv r e w':=by
 obtain ⟨i12,i0,i1,i2,i3,i4,i5,i6,i7,i8,i9,ni,pw,-⟩:=zHc;obtain ⟨H1,B1,F1,bW⟩:=h.pre [] 185;clear h;go_enter func81,ntmps81
 go_wp2_with fail
 generalize w.alloc (.cells #[] 185)=w1 at H1 F1 B1 ⊢;clear i0 i1 i2 i3 i4 i5 i6 i7 i8 i9 ni pw i12;have CX:=zab (znM H1.o (hB.fr F1.o) hb);refine CX.o.mono ?_;cases r with
 |error j=>
  rintro e w7 ⟨f7,rfl,h7⟩;exact ⟨rfl,F1.o.trans f7,rfl,h7⟩
 |ok m'=>
  rintro e w7 ⟨f7,rfl,h7⟩;have H7:=zab h7;have F7:=zab (F1.o.trans f7);clear f7 h7;go_wp2_with fail
  first|go_end0|refine bodyPost_ret (results_none rfl _ _ _) rfl ?_
  exact ⟨F7.o,rfl,H7.o⟩
variable {b:Nat}
theorem zuz(h:MAt w mb wb fv m)(hr:r=.ok { m with o:={ m.o with next:=b } }):
  Calls prog 81 #[.pointer (some ⟨mb,0,none⟩),.iface 273 (.agg #[.int .i64 b])] w fun e w'=>Ends w mb wb fv r e w':=by
 subst hr;have uQ:w.heap.size≠mb:=by have:=h.sat.blk.lt;omega
 obtain ⟨yr,i0,i1,i2,i3,i4,i5,i6,i7,i8,i9,ni,pw,i12,-⟩:=zHf;obtain ⟨H1,B1,F1,bW⟩:=h.pre [.int .i64 b] 273;clear h;go_enter func81,ntmps81
 have d10:=H1.o.sat.c10;have df:=H1.o.sat.blk.frozen 10;have c4:=H1.o.sat.c4;go_wp2_with fail
 generalize w.alloc (.cells #[.int .i64 b] 273)=w1 at H1 F1 B1 ⊢;clear i0 i1 i2 i3 i4 i5 i6 i7 i8 i9 ni pw i12 yr
 first|go_end0|refine bodyPost_ret (results_none rfl _ _ _) rfl ?_
 have f7:Fr (M2 mb wb) w1 (w1.setCell ⟨mb,10,none⟩ (.int .i64 b)):=(Fr.refl _ _).set _ _ (.inl (.inl rfl));exact ⟨F1.o.trans (f7.zc9 fv),rfl,H1.o.sat.zgs b,H1.o.fat.fr f7,H1.o.fl,H1.o.fuel⟩
variable {av:Value}{zao:List (Nat × Nat × Nat)}
theorem zpW(h:MAt w mb wb fv m)(hA:zgI w mb wb fv av zao)(hb:m.choose zao=some r):
  Calls prog 81 #[.pointer (some ⟨mb,0,none⟩),.iface 276 (.agg #[av])] w fun e w'=>Ends w mb wb fv r e w':=by
 have HA:=zab hA;obtain ⟨ab,cap,rfl,_⟩:=hA;obtain ⟨FE,i0,i1,i2,i3,i4,i5,i6,i7,i8,i9,ni,pw,i12,yr,-⟩:=zHa;obtain ⟨H1,B1,F1,bW⟩:=h.pre [.slice (some ⟨ab,0,none⟩) zao.length cap] 276;clear h;go_enter func81,ntmps81
 go_wp2_with fail
 generalize w.alloc (.cells #[.slice (some ⟨ab,0,none⟩) zao.length cap] 276)=w1 at H1 F1 B1 ⊢;clear i0 i1 i2 i3 i4 i5 i6 i7 i8 i9 ni pw i12 yr FE;have CX:=zab (zrf H1.o (HA.o.fr F1.o) hb);refine CX.o.mono ?_;cases r with
 |error j=>
  rintro e w7 ⟨f7,rfl,h7⟩;exact ⟨rfl,F1.o.trans f7,rfl,h7⟩
 |ok m'=>
  rintro e w7 ⟨f7,rfl,h7⟩;have H7:=zab h7;have F7:=zab (F1.o.trans f7);clear f7 h7;go_wp2_with fail
  first|go_end0|refine bodyPost_ret (results_none rfl _ _ _) rfl ?_
  exact ⟨F7.o,rfl,H7.o⟩
def MSt.ziT (m:MSt) (k:Nat):Option (Except Nat MSt):=aft (m.zdI 1) fun m1=>
 match m1.slot k with
 |none=>none
 |some i=>
  match m1.s.ws[i]? with
  |none=>none
  |some x=>m1.put (m1.s.push x)
def MSt.zcW (m:MSt) (f:Nat):Option (Except Nat MSt):=aft (m.zdI 1) fun m1=>
 match m1.fns[f]? with
 |none=>none
 |some x=>m1.put (m1.s.push x)
def MSt.zcH (m:MSt) (k b:Nat):Option (Except Nat MSt):=if b<=1000000000 then aft (m.zdI 1) fun m1=>m1.put (m1.s.push (Mk k b)) else none
variable {s s':Sto}{x:Int}
theorem zv2{i:Nat}(h:s.push x=some s')(hx:s.ws[i]?=some x):s'.ws[i]?=some x:=by
 unfold Sto.push at h;split at h
 ·obtain rfl:=zyU h;simp only;have hi:=(zyL.1 hx).1;by_cases he:s.top-1=i
  ·subst he;rw[List.getElem?_set_self hi]
  ·rw[zAo he];exact hx
 ·cases h
theorem zxF(h:s.push x=some s'):s'.ws.length=s.ws.length:=by
 unfold Sto.push at h;split at h
 ·obtain rfl:=zyU h;simp
 ·cases h
variable {k:Nat}
theorem zuB(h:MAt w mb wb fv m)(hb:m.ziT k=some r):
  Calls prog 81 #[.pointer (some ⟨mb,0,none⟩),.iface 248 (.agg #[.int .i64 k])] w fun e w'=>Ends w mb wb fv r e w':=by
 obtain ⟨i0,-⟩:=zHh;obtain ⟨H1,B1,F1,bW⟩:=h.pre [.int .i64 k] 248;clear h;go_enter func81,ntmps81
 go_wp2_with fail
 generalize w.alloc (.cells #[.int .i64 k] 248)=w1 at H1 F1 B1 ⊢;clear i0;unfold MSt.ziT at hb;have CX:=zab (fun (q:Except Nat MSt) (hq:m.zdI 1=some q)=>zaW H1.o hq);unfold aft at hb;split at hb
 ·cases hb
 ·next j hn=>
  obtain rfl:=zyU hb;refine (CX.o _ hn).mono ?_;rintro e w7 ⟨f7,rfl,h7⟩;exact ⟨rfl,F1.o.trans f7,rfl,h7⟩
 ·next m1 hn=>
  refine (CX.o _ hn).mono ?_;rintro e w2 ⟨f2,rfl,h2⟩;have H2:=zab h2;have F2:=zab (F1.o.trans f2);have B2:=zab (Fr.blk B1.o f2 bW.o);clear h2 f2 hn CX B1 H1 F1;dsimp only at hb;split at hb
  ·cases hb
  ·next i hi=>
   split at hb
   ·cases hb
   ·next x hx=>
    simp only[MSt.put,zyX]at hb;obtain ⟨s4,aM,rfl⟩:=hb;have je:=zab aM;have pN:=zab hx;have br:=(zyL.1 hx).1;have o4:(i:Int)<(m1.s.ws.length:Int):=by omega
    have CS:=zab (fun (W:World) (hW:MAt W mb wb fv m1)=>zqS hW hi);obtain ⟨L,hL⟩:∃ L,m1.s.ws.length=L:=⟨_,rfl⟩;have HL:=zab hL;rw[hL]at o4;have c0:=H2.o.sat.c0;rw[hL]at c0;have cb:=Blk.cell B2.o 0;simp at cb;have cx:=H2.o.sat.word hx;clear aM hi hx hL br;go_wp2_with fail
    go_region_held3 (fun W=>W.cell? ⟨mb,0,none⟩=some (.slice (some ⟨wb,0,none⟩) L L)/\W.cell? ⟨w.heap.size,0,none⟩=some (.int .i64 k)/\W.cell? ⟨wb,i,none⟩=some (.int .i64 x)) (first|go_keep|(refine ⟨?_,?_,?_⟩ <;> assumption)) (first
     |(go_at_call 131;refine (CS.o _ (H2.o.drewN 1)).mono ?_;rintro e w3 ⟨rfl,k3,bL⟩;have H3:Hid (MAt w3 mb wb fv m1):=zab (by rw[bL];exact (H2.o.drewN 1).drewN k3);have F3:Hid (Fr (M2 mb wb) w2 w3):=zab (by rw[bL];exact ((Fr.refl _ _).drewN 1).drewN k3);have B3:=zab (Fr.blk B2.o (F3.o.zc9 fv) bW.o);have d0:w3.cell? ⟨mb,0,none⟩=some (.slice (some ⟨wb,0,none⟩) L L):=(by rw[H3.o.sat.c0,HL.o]);have db:w3.cell? ⟨w.heap.size,0,none⟩=some (.int .i64 k):=(by simpa using Blk.cell B3.o 0);have dx:=H3.o.sat.word pN.o;clear bL)
     |(go_at_call 76;refine (Sto.zb5 H3.o.sat je.o).mono ?_;rintro e w4 ⟨rfl,h4,f4⟩;have H4:=zab h4;have F4:=zab (F3.o.trans f4);have e0:w4.cell? ⟨mb,0,none⟩=some (.slice (some ⟨wb,0,none⟩) L L):=(by rw[h4.c0,zxF je.o,HL.o]);have eb:w4.cell? ⟨w.heap.size,0,none⟩=some (.int .i64 k):=(by simpa using Blk.cell (Fr.blk B3.o (f4.zc9 fv) bW.o) 0);have ex:=h4.word (zv2 je.o pN.o);clear h4 f4))
    all_goals
     go_wp2_with fail
     first|go_end0|refine bodyPost_ret (results_none rfl _ _ _) rfl ?_
     exact ⟨F2.o.trans (F4.o.zc9 fv),rfl,H2.o.fr2 H4.o F4.o⟩
theorem zhV{f:Nat}(h:MAt w mb wb fv m)(hb:m.zcW f=some r):
  Calls prog 81 #[.pointer (some ⟨mb,0,none⟩),.iface 250 (.agg #[.int .i64 f])] w fun e w'=>Ends w mb wb fv r e w':=by
 obtain ⟨i1,i0,-⟩:=zGZ;obtain ⟨H1,B1,F1,bW⟩:=h.pre [.int .i64 f] 250;clear h;go_enter func81,ntmps81
 go_wp2_with fail
 generalize w.alloc (.cells #[.int .i64 f] 250)=w1 at H1 F1 B1 ⊢;clear i0 i1;unfold MSt.zcW at hb;have CX:=zab (fun (q:Except Nat MSt) (hq:m.zdI 1=some q)=>zaW H1.o hq);unfold aft at hb;split at hb
 ·cases hb
 ·next j hn=>
  obtain rfl:=zyU hb;refine (CX.o _ hn).mono ?_;rintro e w7 ⟨f7,rfl,h7⟩;exact ⟨rfl,F1.o.trans f7,rfl,h7⟩
 ·next m1 hn=>
  refine (CX.o _ hn).mono ?_;rintro e w2 ⟨f2,rfl,h2⟩;have H2:=zab h2;have F2:=zab (F1.o.trans f2);have B2:=zab (Fr.blk B1.o f2 bW.o);clear h2 f2 hn CX B1 H1 F1;dsimp only at hb;split at hb
  ·cases hb
  ·next x hx=>
   simp only[MSt.put,zyX]at hb;obtain ⟨s4,aM,rfl⟩:=hb;have je:=zab aM;have br:=(zyL.1 hx).1;rcases H2.o.fat with ⟨_,ck⟩|⟨fb,cap,sp,rfl,oV,_⟩
   ·rw[ck]at hx;cases hx
   ·have o4:(f:Int)<(m1.fns.length:Int):=by omega
    have c8:=H2.o.sat.c8;have cb:=Blk.cell B2.o 0;simp at cb;have cx:=oV.word hx;have vA:=zab oV;have Da:=zab hx;clear aM hx br oV;go_wp2_with fail
    go_region_held3 (fun W=>W.cell? ⟨mb,8,none⟩=some (.slice (some ⟨fb,0,none⟩) m1.fns.length cap)/\W.cell? ⟨w.heap.size,0,none⟩=some (.int .i64 f)/\W.cell? ⟨fb,f,none⟩=some (.int .i64 x)) (first|go_keep|(refine ⟨?_,?_,?_⟩ <;> assumption)) ((go_at_call 76;refine (Sto.zb5 H2.o.sat.drew je.o).mono ?_;rintro e w4 ⟨rfl,h4,f4⟩;have H4:=zab h4;have F4:Hid (Fr (M2 mb wb) w2 w4):=zab ((Fr.refl _ _).drew.trans f4);have e0:=h4.c8;have eb:w4.cell? ⟨w.heap.size,0,none⟩=some (.int .i64 f):=(by simpa using Blk.cell (Fr.blk B2.o (F4.o.zc9 _) bW.o) 0);have ex:=(vA.o.fr F4.o).word Da.o;clear h4 f4))
    all_goals
     go_wp2_with fail
     first|go_end0|refine bodyPost_ret (results_none rfl _ _ _) rfl ?_
     exact ⟨F2.o.trans (F4.o.zc9 _),rfl,H2.o.fr2 H4.o F4.o⟩
theorem zuC(h:MAt w mb wb fv m)(hb:m.zcH 1 b=some r):
  Calls prog 81 #[.pointer (some ⟨mb,0,none⟩),.iface 263 (.agg #[.int .i64 b])] w fun e w'=>Ends w mb wb fv r e w':=by
 obtain ⟨i7,i0,i1,i2,i3,i4,i5,i6,-⟩:=zHi;obtain ⟨H1,B1,F1,bW⟩:=h.pre [.int .i64 b] 263;clear h;go_enter func81,ntmps81
 go_wp2_with fail
 generalize w.alloc (.cells #[.int .i64 b] 263)=w1 at H1 F1 B1 ⊢;clear i0 i1 i2 i3 i4 i5 i6 i7;unfold MSt.zcH at hb;split at hb
 ·next iC=>
  have CX:=zab (fun (q:Except Nat MSt) (hq:m.zdI 1=some q)=>zaW H1.o hq);unfold aft at hb;split at hb
  ·cases hb
  ·next j hn=>
   obtain rfl:=zyU hb;refine (CX.o _ hn).mono ?_;rintro e w7 ⟨f7,rfl,h7⟩;exact ⟨rfl,F1.o.trans f7,rfl,h7⟩
  ·next m1 hn=>
   refine (CX.o _ hn).mono ?_;rintro e w2 ⟨f2,rfl,h2⟩;have H2:=zab h2;have F2:=zab (F1.o.trans f2);have B2:=zab (Fr.blk B1.o f2 bW.o);clear h2 f2 hn CX B1 H1 F1;dsimp only at hb;simp only[MSt.put,zyX]at hb;obtain ⟨s4,aM,rfl⟩:=hb;have CM:=zab (fun W:World=>ziQ 1 b W (by omega) iC);obtain ⟨z,hz⟩:∃ z,Mk 1 b=z:=⟨_,rfl⟩;rw[hz]at CM aM;have je:=zab aM;have cb:=Blk.cell B2.o 0;simp at cb;clear aM hz;go_wp2_with fail
   go_region_held3 (fun W=>W.cell? ⟨w.heap.size,0,none⟩=some (.int .i64 b)) (first|go_keep|assumption) (first
    |(go_at_call 138;refine (CM.o _).mono ?_;rintro e w3 ⟨rfl,bL⟩;subst w3)
    |(go_at_call 76;refine (Sto.zb5 H2.o.sat.drew je.o).mono ?_;rintro e w4 ⟨rfl,h4,f4⟩;have H4:=zab h4;have F4:Hid (Fr (M2 mb wb) w2 w4):=zab ((Fr.refl _ _).drew.trans f4);have eb:w4.cell? ⟨w.heap.size,0,none⟩=some (.int .i64 b):=(by simpa using Blk.cell (Fr.blk B2.o (F4.o.zc9 fv) bW.o) 0);clear h4 f4))
   all_goals
    go_wp2_with fail
    first|go_end0|refine bodyPost_ret (results_none rfl _ _ _) rfl ?_
    exact ⟨F2.o.trans (F4.o.zc9 fv),rfl,H2.o.fr2 H4.o F4.o⟩
 ·cases hb
theorem zhW(h:MAt w mb wb fv m)(hb:m.zcH 2 b=some r):
  Calls prog 81 #[.pointer (some ⟨mb,0,none⟩),.iface 267 (.agg #[.int .i64 b])] w fun e w'=>Ends w mb wb fv r e w':=by
 obtain ⟨i8,i0,i1,i2,i3,i4,i5,i6,i7,-⟩:=zG0;obtain ⟨H1,B1,F1,bW⟩:=h.pre [.int .i64 b] 267;clear h;go_enter func81,ntmps81
 go_wp2_with fail
 generalize w.alloc (.cells #[.int .i64 b] 267)=w1 at H1 F1 B1 ⊢;clear i0 i1 i2 i3 i4 i5 i6 i7 i8;unfold MSt.zcH at hb;split at hb
 ·next iC=>
  have CX:=zab (fun (q:Except Nat MSt) (hq:m.zdI 1=some q)=>zaW H1.o hq);unfold aft at hb;split at hb
  ·cases hb
  ·next j hn=>
   obtain rfl:=zyU hb;refine (CX.o _ hn).mono ?_;rintro e w7 ⟨f7,rfl,h7⟩;exact ⟨rfl,F1.o.trans f7,rfl,h7⟩
  ·next m1 hn=>
   refine (CX.o _ hn).mono ?_;rintro e w2 ⟨f2,rfl,h2⟩;have H2:=zab h2;have F2:=zab (F1.o.trans f2);have B2:=zab (Fr.blk B1.o f2 bW.o);clear h2 f2 hn CX B1 H1 F1;dsimp only at hb;simp only[MSt.put,zyX]at hb;obtain ⟨s4,aM,rfl⟩:=hb;have CM:=zab (fun W:World=>ziQ 2 b W (by omega) iC);obtain ⟨z,hz⟩:∃ z,Mk 2 b=z:=⟨_,rfl⟩;rw[hz]at CM aM;have je:=zab aM;have cb:=Blk.cell B2.o 0;simp at cb;clear aM hz;go_wp2_with fail
   go_region_held3 (fun W=>W.cell? ⟨w.heap.size,0,none⟩=some (.int .i64 b)) (first|go_keep|assumption) (first
    |(go_at_call 138;refine (CM.o _).mono ?_;rintro e w3 ⟨rfl,bL⟩;subst w3)
    |(go_at_call 76;refine (Sto.zb5 H2.o.sat.drew je.o).mono ?_;rintro e w4 ⟨rfl,h4,f4⟩;have H4:=zab h4;have F4:Hid (Fr (M2 mb wb) w2 w4):=zab ((Fr.refl _ _).drew.trans f4);have eb:w4.cell? ⟨w.heap.size,0,none⟩=some (.int .i64 b):=(by simpa using Blk.cell (Fr.blk B2.o (F4.o.zc9 fv) bW.o) 0);clear h4 f4))
   all_goals
    go_wp2_with fail
    first|go_end0|refine bodyPost_ret (results_none rfl _ _ _) rfl ?_
    exact ⟨F2.o.trans (F4.o.zc9 fv),rfl,H2.o.fr2 H4.o F4.o⟩
 ·cases hb
def MSt.pack (m:MSt) (k t c:Nat):Option (Except Nat MSt):=if t<=1000000000/\c<4096 then m.build (Hd k t c) c else none
def MSt.hold (m:MSt) (b c:Nat):Option (Except Nat MSt):=if b<=1000000000/\c<4096 then m.zjH (Hd 2 b c) c else none
variable {t:Nat}
theorem zuA(h:MAt w mb wb fv m)(hb:m.pack 1 t c=some r):
  Calls prog 81 #[.pointer (some ⟨mb,0,none⟩),.iface 254 (.agg #[.int .i64 t,.int .i64 c])] w fun e w'=>Ends w mb wb fv r e w':=by
 unfold MSt.pack at hb;split at hb
 ·next hg=>
  obtain ⟨i3,i0,i1,i2,-⟩:=zHg;obtain ⟨H1,B1,F1,bW⟩:=h.pre [.int .i64 t,.int .i64 c] 254;clear h;go_enter func81,ntmps81
  go_wp2_with fail
  generalize w.alloc (.cells #[.int .i64 t,.int .i64 c] 254)=w1 at H1 F1 B1 ⊢;clear i0 i1 i2 i3;have CH:=zab (fun W:World=>zbt 1 t c W (by omega) hg.2 hg.1);obtain ⟨z,hz⟩:∃ z,Hd 1 t c=z:=⟨_,rfl⟩;rw[hz]at CH hb;have CB:=zab (fun (W:World) (hW:MAt W mb wb fv m)=>zgP hW (show c<=1000000 by omega) hb);have SW:w1.drew.cell? ⟨w.heap.size,0,none⟩=some (.int .i64 t)/\w1.drew.cell? ⟨w.heap.size,1,none⟩=some (.int .i64 c):=⟨by simpa using Blk.cell B1.o.drew 0,by simpa using Blk.cell B1.o.drew 1⟩;clear hb hz hg;refine wp_region_held_drew (S:=fun W=>W.cell? ⟨w.heap.size,0,none⟩=some (.int .i64 t)/\W.cell? ⟨w.heap.size,1,none⟩=some (.int .i64 c)) (by kernel_rfl) SW (fun ax=>?_);refine tk 0 ?_
  try simp only[Act.put,zyO]
  refine tk 1 ?_
  try simp only[Act.put]
  refine tk 2 ?_
  try simp only[Act.put]
  refine tk 3 ?_
  try simp only[Act.put]
  refine tk 4 ?_
  try simp only[Act.put]
  refine tk 6 ?_
  try simp only[Act.put]
  refine tk 7 ?_
  try simp only[Act.put]
  refine rd1 5 rfl fun K hK=>?_
  go_simp
  refine (CH.o _).mono ?_;rintro e w3 ⟨rfl,bL⟩;subst w3;refine hK.out _ _ SW (fun ax=>?_);clear hK K
  try simp only[Act.put,zyO,zyZ,zyW]
  refine rd1 8 rfl fun K hK=>?_
  go_simp
  refine (CB.o _ (H1.o.drewN 1)).mono ?_;cases r with
  |error j=>
   rintro e w7 ⟨f7,rfl,h7⟩;exact ⟨rfl,F1.o.drew.trans f7,rfl,h7⟩
  |ok m'=>
   rintro e w7 ⟨f7,rfl,h7⟩;have H7:=zab h7;have F7:=zab (F1.o.drew.trans f7);have B7:=Fr.blk B1.o.drew f7 bW.o;have S7:w7.cell? ⟨w.heap.size,0,none⟩=some (.int .i64 t)/\w7.cell? ⟨w.heap.size,1,none⟩=some (.int .i64 c):=⟨by simpa using Blk.cell B7 0,by simpa using Blk.cell B7 1⟩;clear f7 h7 B7;refine hK.out _ _ S7 (fun ax=>?_);clear hK K
   try simp only[Act.put,zyO,zyZ,zyW]
   refine wpAnyH_done (by kernel_rfl) ?_ _;clear SW S7;go_wp2_with fail
   first|go_end0|refine bodyPost_ret (results_none rfl _ _ _) rfl ?_
   exact ⟨F7.o,rfl,H7.o⟩
 ·cases hb
theorem zr3(h:MAt w mb wb fv m)(hb:m.pack 2 t c=some r):
  Calls prog 81 #[.pointer (some ⟨mb,0,none⟩),.iface 257 (.agg #[.int .i64 t,.int .i64 c])] w fun e w'=>Ends w mb wb fv r e w':=by
 unfold MSt.pack at hb;split at hb
 ·next hg=>
  obtain ⟨i4,i0,i1,i2,i3,-⟩:=zHb;obtain ⟨H1,B1,F1,bW⟩:=h.pre [.int .i64 t,.int .i64 c] 257;clear h;go_enter func81,ntmps81
  go_wp2_with fail
  generalize w.alloc (.cells #[.int .i64 t,.int .i64 c] 257)=w1 at H1 F1 B1 ⊢;clear i0 i1 i2 i3 i4;have CH:=zab (fun W:World=>zbt 2 t c W (by omega) hg.2 hg.1);obtain ⟨z,hz⟩:∃ z,Hd 2 t c=z:=⟨_,rfl⟩;rw[hz]at CH hb;have CB:=zab (fun (W:World) (hW:MAt W mb wb fv m)=>zgP hW (show c<=1000000 by omega) hb);have SW:w1.drew.cell? ⟨w.heap.size,0,none⟩=some (.int .i64 t)/\w1.drew.cell? ⟨w.heap.size,1,none⟩=some (.int .i64 c):=⟨by simpa using Blk.cell B1.o.drew 0,by simpa using Blk.cell B1.o.drew 1⟩;clear hb hz hg;refine wp_region_held_drew (S:=fun W=>W.cell? ⟨w.heap.size,0,none⟩=some (.int .i64 t)/\W.cell? ⟨w.heap.size,1,none⟩=some (.int .i64 c)) (by kernel_rfl) SW (fun ax=>?_);refine tk 0 ?_
  try simp only[Act.put,zyO]
  refine tk 1 ?_
  try simp only[Act.put]
  refine tk 2 ?_
  try simp only[Act.put]
  refine tk 3 ?_
  try simp only[Act.put]
  refine tk 4 ?_
  try simp only[Act.put]
  refine tk 6 ?_
  try simp only[Act.put]
  refine tk 7 ?_
  try simp only[Act.put]
  refine rd1 5 rfl fun K hK=>?_
  go_simp
  refine (CH.o _).mono ?_;rintro e w3 ⟨rfl,bL⟩;subst w3;refine hK.out _ _ SW (fun ax=>?_);clear hK K
  try simp only[Act.put,zyO,zyZ,zyW]
  refine rd1 8 rfl fun K hK=>?_
  go_simp
  refine (CB.o _ (H1.o.drewN 1)).mono ?_;cases r with
  |error j=>
   rintro e w7 ⟨f7,rfl,h7⟩;exact ⟨rfl,F1.o.drew.trans f7,rfl,h7⟩
  |ok m'=>
   rintro e w7 ⟨f7,rfl,h7⟩;have H7:=zab h7;have F7:=zab (F1.o.drew.trans f7);have B7:=Fr.blk B1.o.drew f7 bW.o;have S7:w7.cell? ⟨w.heap.size,0,none⟩=some (.int .i64 t)/\w7.cell? ⟨w.heap.size,1,none⟩=some (.int .i64 c):=⟨by simpa using Blk.cell B7 0,by simpa using Blk.cell B7 1⟩;clear f7 h7 B7;refine hK.out _ _ S7 (fun ax=>?_);clear hK K
   try simp only[Act.put,zyO,zyZ,zyW]
   refine wpAnyH_done (by kernel_rfl) ?_ _;clear SW S7;go_wp2_with fail
   first|go_end0|refine bodyPost_ret (results_none rfl _ _ _) rfl ?_
   exact ⟨F7.o,rfl,H7.o⟩
 ·cases hb
theorem zop(h:MAt w mb wb fv m)(hb:m.hold t c=some r):
  Calls prog 81 #[.pointer (some ⟨mb,0,none⟩),.iface 258 (.agg #[.int .i64 t,.int .i64 c])] w fun e w'=>Ends w mb wb fv r e w':=by
 unfold MSt.hold at hb;split at hb
 ·next hg=>
  obtain ⟨i5,i0,i1,i2,i3,i4,-⟩:=zG9;obtain ⟨H1,B1,F1,bW⟩:=h.pre [.int .i64 t,.int .i64 c] 258;clear h;go_enter func81,ntmps81
  go_wp2_with fail
  generalize w.alloc (.cells #[.int .i64 t,.int .i64 c] 258)=w1 at H1 F1 B1 ⊢;clear i0 i1 i2 i3 i4 i5;have CH:=zab (fun W:World=>zbt 2 t c W (by omega) hg.2 hg.1);obtain ⟨z,hz⟩:∃ z,Hd 2 t c=z:=⟨_,rfl⟩;rw[hz]at CH hb;have CB:=zab (fun (W:World) (hW:MAt W mb wb fv m)=>zpL hW (show c<=1000000 by omega) hb);have SW:w1.drew.cell? ⟨w.heap.size,0,none⟩=some (.int .i64 t)/\w1.drew.cell? ⟨w.heap.size,1,none⟩=some (.int .i64 c):=⟨by simpa using Blk.cell B1.o.drew 0,by simpa using Blk.cell B1.o.drew 1⟩;clear hb hz hg;refine wp_region_held_drew (S:=fun W=>W.cell? ⟨w.heap.size,0,none⟩=some (.int .i64 t)/\W.cell? ⟨w.heap.size,1,none⟩=some (.int .i64 c)) (by kernel_rfl) SW (fun ax=>?_);refine tk 0 ?_
  try simp only[Act.put,zyO]
  refine tk 1 ?_
  try simp only[Act.put]
  refine tk 2 ?_
  try simp only[Act.put]
  refine tk 3 ?_
  try simp only[Act.put]
  refine tk 4 ?_
  try simp only[Act.put]
  refine tk 6 ?_
  try simp only[Act.put]
  refine tk 7 ?_
  try simp only[Act.put]
  refine rd1 5 rfl fun K hK=>?_
  go_simp
  refine (CH.o _).mono ?_;rintro e w3 ⟨rfl,bL⟩;subst w3;refine hK.out _ _ SW (fun ax=>?_);clear hK K
  try simp only[Act.put,zyO,zyZ,zyW]
  refine rd1 8 rfl fun K hK=>?_
  go_simp
  refine (CB.o _ (H1.o.drewN 1)).mono ?_;cases r with
  |error j=>
   rintro e w7 ⟨f7,rfl,h7⟩;exact ⟨rfl,F1.o.drew.trans f7,rfl,h7⟩
  |ok m'=>
   rintro e w7 ⟨f7,rfl,h7⟩;have H7:=zab h7;have F7:=zab (F1.o.drew.trans f7);have B7:=Fr.blk B1.o.drew f7 bW.o;have S7:w7.cell? ⟨w.heap.size,0,none⟩=some (.int .i64 t)/\w7.cell? ⟨w.heap.size,1,none⟩=some (.int .i64 c):=⟨by simpa using Blk.cell B7 0,by simpa using Blk.cell B7 1⟩;clear f7 h7 B7;refine hK.out _ _ S7 (fun ax=>?_);clear hK K
   try simp only[Act.put,zyO,zyZ,zyW]
   refine wpAnyH_done (by kernel_rfl) ?_ _;clear SW S7;go_wp2_with fail
   first|go_end0|refine bodyPost_ret (results_none rfl _ _ _) rfl ?_
   exact ⟨F7.o,rfl,H7.o⟩
 ·cases hb
def MSt.zln (m:MSt) (k c:Nat):Option (Except Nat MSt):=
 match m.slot k with
 |none=>none
 |some i=>
  match m.s.ws[i]? with
  |none=>none
  |some x=>if x<0 then none else
   match m.s.head x.toNat with
   |none=>none
   |some y=>if cnt y=c/\x.toNat+1+c<=m.s.ws.length/\m.s.top+c<=m.s.ws.length/\(i<x.toNat+1\/x.toNat+1+c<=i) then
     m.put (Sto.pop { m.s with ws:=Go.splice m.s.ws (x.toNat+1) (m.s.words m.s.top c) } c)
    else none
theorem zr0{ws xs:List Int}{o i:Nat}(h:o+xs.length<=ws.length)(hi:i<o\/o+xs.length<=i):(Go.splice ws o xs)[i]?=ws[i]?:=by
 unfold Go.splice;rcases hi with hi|hi
 ·rw[zzc (by rw[zzf];omega),List.getElem?_take_of_lt hi]
 ·rw[zy3 (by rw[zzf];omega),zzf,zzV (by omega),zy3 (by omega),zzx];congr 1;omega
theorem zuy(h:MAt w mb wb fv m)(hb:m.zln k c=some r):
  Calls prog 81 #[.pointer (some ⟨mb,0,none⟩),.iface 260 (.agg #[.int .i64 k,.int .i64 c])] w fun e w'=>Ends w mb wb fv r e w':=by
 unfold MSt.zln at hb;split at hb
 ·cases hb
 ·next i hi=>
  split at hb
  ·cases hb
  ·next x hx=>
   split at hb
   ·cases hb
   ·next cX=>
    split at hb
    ·cases hb
    ·next y hh=>
     split at hb
     ·next hg=>
      simp only[MSt.put,zyX]at hb;obtain ⟨s4,dW,rfl⟩:=hb;obtain ⟨a,rfl⟩:∃ a:Nat,x=a:=⟨x.toNat,by omega⟩;simp only[zy2]at hh hg dW;obtain ⟨hy,aT,bE,aU⟩:=Sto.zaU hh;obtain ⟨bw,aF,aS,bM⟩:=hg;have br:=(zyL.1 hx).1;have jj:(c:Int)<4096:=by have:=zf2 y;omega
      have hlen:=h.sat.len;obtain ⟨i6,i0,i1,i2,i3,i4,i5,-⟩:=zHe;obtain ⟨H1,B1,F1,bW⟩:=h.pre [.int .i64 k,.int .i64 c] 260;clear h;go_enter func81,ntmps81
      go_wp2_with fail
      generalize w.alloc (.cells #[.int .i64 k,.int .i64 c] 260)=w1 at H1 F1 B1 ⊢;clear i0 i1 i2 i3 i4 i5 i6;have HC:=zab (H1.o.drewN 1);have FC:Hid (Fr (M2 mb wb) w1 (w1.drewN 1)):=zab ((Fr.refl _ _).drewN 1);have CS:=zab (fun (W:World) (hW:MAt W mb wb fv m)=>zqS hW hi);have CF:=zab (fun (W:World) (hW:MAt W mb wb fv m)=>zcA hW.sat a y hy aT bE (show a+1+cnt y<=m.s.ws.length by omega));have CT:=zab (fun (W:World) (hW:MAt W mb wb fv m)=>zeZ hW.sat c aS);rw[show (y/16%4096).toNat=c from bw]at CF;have pN:=zab hx;have dk:(m.s.words m.s.top c).length=c:=Sto.zcR aS;have mD:Hid (∀ (j:Nat) x,(m.s.words m.s.top c)[j]?=some x->m.s.ws[m.s.top+j]?=some x):=zab (fun j x hj=>(Sto.zd7 hj).2);have ug:Hid (0<c->cutAt m.s.ws.length (a+1)=a+1):=zab (fun h0=>zbT (by omega));have mA:Hid (0<c->cutAt m.s.ws.length m.s.top=m.s.top):=zab (fun h0=>zbT (by omega));have uh:Hid (cutAt m.s.ws.length (a+1)+c<=m.s.ws.length):=zab (by unfold cutAt;split <;> omega);obtain ⟨L,hL⟩:∃ L,m.s.ws.length=L:=⟨_,rfl⟩;have o4:(i:Int)<(L:Int):=by omega
      have HL:=zab hL;have c0:=H1.o.sat.c0;rw[hL]at c0 ug mA uh CF CT;generalize cutAt L (a+1)=o1 at ug uh CF;generalize cutAt L m.s.top=o2 at mA CT;generalize L-(a+1)=q1 at CF;generalize L-m.s.top=q2 at CT;generalize m.s.words m.s.top c=xs at dk mD dW;have kE:Hid (Sto.pop { m.s with ws:=Go.splice m.s.ws o1 xs } c=some s4):=zab (by
       by_cases h0:c=0
       ·have cX:xs=[]:=zzt (by omega);rw[cX]at dW ⊢;simpa [Go.splice] using dW
       ·rw[ug.o (by omega)];exact dW)
      have CY:Hid ((Go.splice m.s.ws o1 xs)[i]?=some (a:Int)):=zab (by
       by_cases h0:c=0
       ·have cX:xs=[]:=zzt (by omega);rw[cX];simpa [Go.splice] using hx
       ·rw[zr0 (by rw[dk,hL];exact uh.o) (by rw[ug.o (by omega),dk];exact bM)];exact hx)
      have cb:w1.cell? ⟨w.heap.size,0,none⟩=some (.int .i64 k):=by simpa using Blk.cell B1.o 0
      have cc:w1.cell? ⟨w.heap.size,1,none⟩=some (.int .i64 c):=by simpa using Blk.cell B1.o 1
      have cx:=H1.o.sat.word hx;have fZ:Hid (o1+xs.length<=m.s.ws.length):=zab (by rw[dk,hL];exact uh.o);have FY:=zab (And.intro aF aS);clear hi hx hh bw aF aS bM hy aT bE aU br hL dW hlen cX
      go_region_held3 (fun W=>W.cell? ⟨mb,0,none⟩=some (.slice (some ⟨wb,0,none⟩) L L)/\W.cell? ⟨w.heap.size,0,none⟩=some (.int .i64 k)/\W.cell? ⟨w.heap.size,1,none⟩=some (.int .i64 c)/\W.cell? ⟨wb,i,none⟩=some (.int .i64 a)) (first|go_keep|(refine ⟨?_,?_,?_,?_⟩ <;> assumption)) (first
       |(go_at_call 131;refine (CS.o _ HC.o).mono ?_;rintro e w3 ⟨rfl,k3,bL⟩;have nw:Hid (MAt w3 mb wb fv m):=zab (by rw[bL];exact HC.o.drewN k3);have nr:Hid (Fr (M2 mb wb) w1 w3):=zab (by rw[bL];exact FC.o.drewN k3);clear HC FC bL;have HC:=nw;have FC:=nr;clear nw nr;have d0:w3.cell? ⟨mb,0,none⟩=some (.slice (some ⟨wb,0,none⟩) L L):=(by rw[HC.o.sat.c0,HL.o]);have db:w3.cell? ⟨w.heap.size,0,none⟩=some (.int .i64 k):=(by simpa using Blk.cell (Fr.blk B1.o (FC.o.zc9 fv) bW.o) 0);have dc:w3.cell? ⟨w.heap.size,1,none⟩=some (.int .i64 c):=(by simpa using Blk.cell (Fr.blk B1.o (FC.o.zc9 fv) bW.o) 1);have dx:=HC.o.sat.word pN.o)
       |(go_at_call 135;refine (CF.o _ HC.o).mono ?_;rintro e w3 ⟨rfl,k3,bL⟩;have nw:Hid (MAt w3 mb wb fv m):=zab (by rw[bL];exact HC.o.drewN k3);have nr:Hid (Fr (M2 mb wb) w1 w3):=zab (by rw[bL];exact FC.o.drewN k3);clear HC FC bL;have HC:=nw;have FC:=nr;clear nw nr;have d0:w3.cell? ⟨mb,0,none⟩=some (.slice (some ⟨wb,0,none⟩) L L):=(by rw[HC.o.sat.c0,HL.o]);have db:w3.cell? ⟨w.heap.size,0,none⟩=some (.int .i64 k):=(by simpa using Blk.cell (Fr.blk B1.o (FC.o.zc9 fv) bW.o) 0);have dc:w3.cell? ⟨w.heap.size,1,none⟩=some (.int .i64 c):=(by simpa using Blk.cell (Fr.blk B1.o (FC.o.zc9 fv) bW.o) 1);have dx:=HC.o.sat.word pN.o)
       |(go_at_call 136;refine (CT.o _ HC.o).mono ?_;rintro e w3 ⟨rfl,k3,bL⟩;have nw:Hid (MAt w3 mb wb fv m):=zab (by rw[bL];exact HC.o.drewN k3);have nr:Hid (Fr (M2 mb wb) w1 w3):=zab (by rw[bL];exact FC.o.drewN k3);clear HC FC bL;have HC:=nw;have FC:=nr;clear nw nr;have d0:w3.cell? ⟨mb,0,none⟩=some (.slice (some ⟨wb,0,none⟩) L L):=(by rw[HC.o.sat.c0,HL.o]);have db:w3.cell? ⟨w.heap.size,0,none⟩=some (.int .i64 k):=(by simpa using Blk.cell (Fr.blk B1.o (FC.o.zc9 fv) bW.o) 0);have dc:w3.cell? ⟨w.heap.size,1,none⟩=some (.int .i64 c):=(by simpa using Blk.cell (Fr.blk B1.o (FC.o.zc9 fv) bW.o) 1);have dx:=HC.o.sat.word pN.o)
       |(refine za6 (by rfl) _ _ (by rfl) HC.o.sat o1 _ _ _ _ _ (by rfl) (by rfl) xs (by rw[dk];exact (Nat.min_self c).symm) (fun h0=>⟨_,rfl,fun j x hj=>by rw[zbe,mA.o (by omega)];exact HC.o.sat.word (mD.o j x hj)⟩) fZ.o ?_;intro w8 h8 f8;have H8:=zab h8;have F8:=zab (FC.o.trans f8);have e0:w8.cell? ⟨mb,0,none⟩=some (.slice (some ⟨wb,0,none⟩) L L):=(by rw[h8.c0];simp only;rw[zaY _ _ _ fZ.o,HL.o]);have eb:w8.cell? ⟨w.heap.size,0,none⟩=some (.int .i64 k):=(by simpa using Blk.cell (Fr.blk B1.o (F8.o.zc9 fv) bW.o) 0);have ec:w8.cell? ⟨w.heap.size,1,none⟩=some (.int .i64 c):=(by simpa using Blk.cell (Fr.blk B1.o (F8.o.zc9 fv) bW.o) 1);have ex:=h8.word CY.o;clear h8 f8))
      all_goals
       clear c0 cb cc cx d0 db dc dx e0 eb ex;go_wp2_with fail
       go_region_held3 (fun W=>W.cell? ⟨w.heap.size,1,none⟩=some (.int .i64 c)) (first|go_keep|assumption) ((go_at_call 137;refine (Sto.zbQ H8.o.drew kE.o).mono ?_;rintro e w9 ⟨rfl,h9,f9⟩;have H9:=zab h9;have F9:=zab (F8.o.drew.trans f9);have eb:w9.cell? ⟨w.heap.size,1,none⟩=some (.int .i64 c):=(by simpa using Blk.cell (Fr.blk B1.o (F9.o.zc9 fv) bW.o) 1);clear h9 f9))
       all_goals
        go_wp2_with fail
        first|go_end0|refine bodyPost_ret (results_none rfl _ _ _) rfl ?_
        exact ⟨F1.o.trans (F9.o.zc9 fv),rfl,H1.o.fr2 H9.o F9.o⟩
     ·cases hb
end Go.Proofs.YtgahgkddaljmkaaGreatDoor
namespace Go.Proofs.YtgahgkddaljmkaaGreatDoor
open Tryz
open Go.RowKit
inductive Ins where
 |push (k:Nat)
 |zcW (f:Nat)
 |num (v:Int)
 |pack (t c:Nat)
 |close (b c:Nat)
 |hold (b c:Nat)
 |fill (k c:Nat)
 |wait (b:Nat)
 |zbF (c:Nat)
 |zci (c:Nat)
 |zbX
 |comp (sg:ByteArray)
 |enter
 |jump (b:Nat)
 |choose (zao:List (Nat × Nat × Nat))
def IAt (w:World) (mb wb:Nat) (fv:Value) (v:Value):Ins->Prop
 |.push k=>v=.iface 248 (.agg #[.int .i64 k])
 |.zcW f=>v=.iface 250 (.agg #[.int .i64 f])
 |.num x=>v=.iface 252 (.agg #[.int .i64 x])
 |.pack t c=>v=.iface 254 (.agg #[.int .i64 t,.int .i64 c])
 |.close b c=>v=.iface 257 (.agg #[.int .i64 b,.int .i64 c])
 |.hold b c=>v=.iface 258 (.agg #[.int .i64 b,.int .i64 c])
 |.fill k c=>v=.iface 260 (.agg #[.int .i64 k,.int .i64 c])
 |.wait b=>v=.iface 263 (.agg #[.int .i64 b])
 |.zbF c=>v=.iface 267 (.agg #[.int .i64 c])
 |.zci c=>v=.iface 268 (.agg #[.int .i64 c])
 |.zbX=>v=.iface 269 (.agg #[])
 |.comp sg=>v=.iface 272 (.agg #[.string sg])
 |.enter=>v=.iface 185 (.agg #[])
 |.jump b=>v=.iface 273 (.agg #[.int .i64 b])
 |.choose zao=>∃ av,v=.iface 276 (.agg #[av])/\zgI w mb wb fv av zao
theorem IAt.fr{w w':World}{mb wb:Nat}{fv v:Value}{i:Ins}(h:IAt w mb wb fv v i)(f:Fr (MB mb wb fv) w w'):IAt w' mb wb fv v i:=by
 cases i <;> first|exact h|(obtain ⟨av,h1,h2⟩:=h;exact ⟨av,h1,h2.fr f⟩)
def MSt.step (m:MSt) (sl:List Nat):Ins->Option (Except Nat MSt)
 |.push k=>m.ziT k
 |.zcW f=>m.zcW f
 |.num x=>m.zau x
 |.pack t c=>m.pack 1 t c
 |.close b c=>m.pack 2 b c
 |.hold b c=>m.hold b c
 |.fill k c=>m.zln k c
 |.wait b=>m.zcH 1 b
 |.zbF c=>m.zcH 2 c
 |.zci c=>(m.zci c).map .ok
 |.zbX=>(m.numberAt 0).map fun q=>q.map fun _=>m
 |.comp sg=>m.compute sg
 |.enter=>m.enter sl
 |.jump b=>some (.ok { m with o:={ m.o with next:=b } })
 |.choose zao=>m.choose zao
variable {w:World}{mb wb:Nat}{fv:Value}{m:MSt}{sl:List Nat}{r:Except Nat MSt}
theorem zwn{v:Value}{i:Ins}(h:MAt w mb wb fv m)(hB:BAt w mb wb fv m.o.pb sl)(hi:IAt w mb wb fv v i)(hb:m.step sl i=some r):
  Calls prog 81 #[.pointer (some ⟨mb,0,none⟩),v] w fun e w'=>Ends w mb wb fv r e w':=by
 cases i with
 |push k=>obtain rfl:=hi;exact zuB h hb
 |zcW f=>obtain rfl:=hi;exact zhV h hb
 |num x=>obtain rfl:=hi;exact zjX h hb
 |pack t c=>obtain rfl:=hi;exact zuA h hb
 |close b c=>obtain rfl:=hi;exact zr3 h hb
 |hold b c=>obtain rfl:=hi;exact zop h hb
 |fill k c=>obtain rfl:=hi;exact zuy h hb
 |wait b=>obtain rfl:=hi;exact zuC h hb
 |zbF c=>obtain rfl:=hi;exact zhW h hb
 |zci c=>
  obtain rfl:=hi;simp only[MSt.step,zyX]at hb;obtain ⟨m2,h2,rfl⟩:=hb;exact zr5 h h2 rfl
 |zbX=>
  obtain rfl:=hi;simp only[MSt.step,zyX]at hb;obtain ⟨q,h2,rfl⟩:=hb;exact zjW h h2 rfl
 |comp sg=>obtain rfl:=hi;exact zoo h hb
 |enter=>obtain rfl:=hi;exact zr4 h hB hb
 |jump b=>obtain rfl:=hi;exact zuz h (zyU hb).symm
 |choose zao=>obtain ⟨av,rfl,hA⟩:=hi;exact zpW h hA hb
def zjL (r:Int):Bool:=r == 32||r == 10
def zdl (r:Int):Bool:=decide (97<=r) && decide (r<=122)
def zem (r:Int):Bool:=decide (48<=r) && decide (r<=57)
def zjM (r:Int):Bool:=zdl r||zem r
theorem zgo(r:Int)(w:World):
  Calls prog 189 #[.int .i32 r] w fun e w'=>e=.returned (.bool (zjL r))/\w'=w:=by
 by_cases h:(r == 32)=true
 ·go_enter func189,ntmps189
  go_wp2
  go_ret
  exact ⟨by simp[zjL,h],rfl⟩
 ·have h:(r == 32)=false:=by simpa using h
  go_enter func189,ntmps189
  go_wp2
  go_ret
  exact ⟨by simp[zjL,h],rfl⟩
theorem zdz(r:Int)(w:World):
  Calls prog 242 #[.int .i32 r] w fun e w'=>e=.returned (.bool (zdl r))/\w'=w:=by
 by_cases h:97<=r
 ·go_enter func242,ntmps242
  go_wp2
  go_ret
  exact ⟨by simp[zdl,h],rfl⟩
 ·have hd:decide (97<=r)=false:=by simpa using h
  go_enter func242,ntmps242
  go_wp2
  go_ret
  exact ⟨by simp[zdl,hd],rfl⟩
theorem zeh(r:Int)(w:World):
  Calls prog 245 #[.int .i32 r] w fun e w'=>e=.returned (.bool (zem r))/\w'=w:=by
 by_cases h:48<=r
 ·go_enter func245,ntmps245
  go_wp2
  go_ret
  exact ⟨by simp[zem,h],rfl⟩
 ·have hd:decide (48<=r)=false:=by simpa using h
  go_enter func245,ntmps245
  go_wp2
  go_ret
  exact ⟨by simp[zem,hd],rfl⟩
theorem zmr(r:Int)(w:World):
  Calls prog 244 #[.int .i32 r] w fun e w'=>e=.returned (.bool (zjM r))/\w'=w:=by
 cases h:zdl r
 ·go_enter func244,ntmps244
  go_wp2_with fail
  refine (zdz r _).mono ?_;rintro e w' ⟨rfl,rfl⟩;rw[h];go_wp2_with fail
  refine (zeh r _).mono ?_;rintro e w' ⟨rfl,rfl⟩;go_wp2_with fail
  go_ret
  exact ⟨by simp[zjM,h],rfl⟩
 ·go_enter func244,ntmps244
  go_wp2_with fail
  refine (zdz r _).mono ?_;rintro e w' ⟨rfl,rfl⟩;rw[h];go_wp2_with fail
  go_ret
  exact ⟨by simp[zjM,h],rfl⟩
theorem zgg{q:UInt8->Bool}:∀ (l:List UInt8) (k:Nat),k<=l.length->(∀ j (h:j<l.length),j<k->q l[j]=true) ->
  (∀ (h:k<l.length),q l[k]=false)->(l.takeWhile q).length=k
 |[],k,hk,_,_=>by simp at hk;simp[hk]
 |c::l,0,_,_,h2=>by
  have:=h2 (by simp);simp at this;simp[this]
 |c::l,k+1,hk,h1,h2=>by
  have a:=h1 0 (by simp) (by omega);simp at a;have ih:=zgg l k (by simpa using hk) (fun j h hj=>by have:=h1 (j+1) (by simpa using h) (by omega);simpa using this)
   (fun h=>by have:=h2 (by simpa using h);simpa using this)
  simp[a,ih]
theorem zyj(c:UInt8)(_h:c.toNat<128):Th.zda c=zjL c.toNat:=by
 unfold Th.zda zjL;rw[zAa];simp[<-UInt8.toNat_inj];omega
theorem zw8(c:UInt8)(h:128<=c.toNat):Th.zda c=false:=by
 unfold Th.zda;simp[<-UInt8.toNat_inj];omega
theorem zw9(r:Int)(h:128<=r):zjL r=false:=by
 unfold zjL;simp;omega
theorem zsS(c:UInt8)(_h:c.toNat<128):Th.zba c=zem c.toNat:=by
 unfold Th.zba zem;rw[zAa];simp;omega
theorem zvo(c:UInt8)(h:128<=c.toNat):Th.zba c=false:=by
 unfold Th.zba;simp;omega
theorem zvp(r:Int)(h:128<=r):zem r=false:=by
 unfold zem;simp;omega
theorem zxx(c:UInt8)(_h:c.toNat<128):Th.isLet c=zdl c.toNat:=by
 unfold Th.isLet zdl;rw[zAa];simp;omega
theorem zyH(c:UInt8)(h:c.toNat<128):Th.zlx c=zjM c.toNat:=by
 unfold Th.zlx zjM;rw[zsS c h,zxx c h]
theorem zx4(c:UInt8)(h:128<=c.toNat):Th.zlx c=false:=by
 unfold Th.zlx Th.isLet Th.zba;simp;omega
theorem zx5(r:Int)(h:128<=r):zjM r=false:=by
 unfold zjM zdl zem;simp;omega
theorem zxR(s:ByteArray)(w:World)(_hs:s.size<9223372036854775807):
  Calls prog 188 #[.string s,.func (.func 189) #[] #[]] w fun e w'=>e=.returned (.int .i64 (s.data.toList.takeWhile Th.zda).length)/\∃ pos,w'=w.alloc (.stringIter s pos):=by
 go_enter func188,ntmps188
 go_wp2_with fail
 go_loopw [5] (fun _ w'=>∃ pos:Nat,w'=w.iter s pos/\pos<=s.size/\Hid (∀ j (h:j<s.size),j<pos->Th.zda s[j]=true)) (fun _ w'=>s.size-w'.iterPos w.heap.size)
 case atStart=>exact ⟨0,rfl,zy5 _,zab (fun _ _ h=>by omega)⟩
 case round=>
  obtain ⟨pos,rfl,hp,hall⟩:=hrel;by_cases aj:pos<s.size
  ·by_cases hb:(s[pos]'aj).toNat<128
   ·have gx:∀ ty,(Instr.next (.pointer (some ⟨w.heap.size,0,none⟩)) true ty).run prog (w.iter s pos)=_:=fun ty=>run_next_ascii w s pos ty aj hb
    have nV:=zab (zyj (s[pos]'aj) hb);clear hb;cases hv:Th.zda s[pos]
    ·have dZ:=zab hv;clear hv;go_wp2_with fail
     refine (zgo _ _).mono ?_;rintro e w' ⟨rfl,rfl⟩;rw[<-nV.o,dZ.o];go_wp2_with fail
     go_ret
     refine ⟨?_,_,rfl⟩;rw[zgg s.data.toList pos (by simp;omega) (fun j h hj=>hall.o j (by simpa using h) hj) (fun h=>dZ.o)];rfl
    ·have dZ:=zab hv;clear hv;go_wp2_with fail
     refine (zgo _ _).mono ?_;rintro e w' ⟨rfl,rfl⟩;rw[<-nV.o,dZ.o];go_wp2_with fail
     go_roundw
     case rel=>
      refine ⟨pos+1,rfl,by omega,zab fun j h hj=>?_⟩;by_cases e:j=pos
      ·subst e;exact dZ.o
      ·exact hall.o j h (by omega)
     case measure=>
      simp;omega
   ·have gx:∀ ty,(Instr.next (.pointer (some ⟨w.heap.size,0,none⟩)) true ty).run prog (w.iter s pos)=_:=fun ty=>run_next_any w s pos ty aj
    have dZ:=zab (zw8 _ (by omega:128<=(s[pos]'aj).toNat));have hd:=(decode_high s pos aj (by omega)).1;have tz:=zab (zw9 ((Utf8.decode s pos).1:Int) (by omega));clear hb hd;go_wp2_with fail
    refine (zgo _ _).mono ?_;rintro e w' ⟨rfl,rfl⟩;rw[tz.o];go_wp2_with fail
    go_ret
    refine ⟨?_,_,rfl⟩;rw[zgg s.data.toList pos (by simp;omega) (fun j h hj=>hall.o j (by simpa using h) hj) (fun h=>dZ.o)];rfl
  ·have gx:∀ ty,(Instr.next (.pointer (some ⟨w.heap.size,0,none⟩)) true ty).run prog (w.iter s pos)=_:=fun ty=>run_next_end w s pos ty aj
   go_wp2_with fail
   go_ret
   refine ⟨?_,_,rfl⟩;rw[zgg s.data.toList s.size (by simp) (fun j h hj=>hall.o j (by simpa using h) (by omega)) (fun h=>by simp at h)];rfl
theorem zxS(s:ByteArray)(w:World)(_hs:s.size<9223372036854775807):
  Calls prog 188 #[.string s,.func (.func 244) #[] #[]] w fun e w'=>e=.returned (.int .i64 (s.data.toList.takeWhile Th.zlx).length)/\∃ pos,w'=w.alloc (.stringIter s pos):=by
 go_enter func188,ntmps188
 go_wp2_with fail
 go_loopw [5] (fun _ w'=>∃ pos:Nat,w'=w.iter s pos/\pos<=s.size/\Hid (∀ j (h:j<s.size),j<pos->Th.zlx s[j]=true)) (fun _ w'=>s.size-w'.iterPos w.heap.size)
 case atStart=>exact ⟨0,rfl,zy5 _,zab (fun _ _ h=>by omega)⟩
 case round=>
  obtain ⟨pos,rfl,hp,hall⟩:=hrel;by_cases aj:pos<s.size
  ·by_cases hb:(s[pos]'aj).toNat<128
   ·have gx:∀ ty,(Instr.next (.pointer (some ⟨w.heap.size,0,none⟩)) true ty).run prog (w.iter s pos)=_:=fun ty=>run_next_ascii w s pos ty aj hb
    have nV:=zab (zyH (s[pos]'aj) hb);clear hb;cases hv:Th.zlx s[pos]
    ·have dZ:=zab hv;clear hv;go_wp2_with fail
     refine (zmr _ _).mono ?_;rintro e w' ⟨rfl,rfl⟩;rw[<-nV.o,dZ.o];go_wp2_with fail
     go_ret
     refine ⟨?_,_,rfl⟩;rw[zgg s.data.toList pos (by simp;omega) (fun j h hj=>hall.o j (by simpa using h) hj) (fun h=>dZ.o)];rfl
    ·have dZ:=zab hv;clear hv;go_wp2_with fail
     refine (zmr _ _).mono ?_;rintro e w' ⟨rfl,rfl⟩;rw[<-nV.o,dZ.o];go_wp2_with fail
     go_roundw
     case rel=>
      refine ⟨pos+1,rfl,by omega,zab fun j h hj=>?_⟩;by_cases e:j=pos
      ·subst e;exact dZ.o
      ·exact hall.o j h (by omega)
     case measure=>
      simp;omega
   ·have gx:∀ ty,(Instr.next (.pointer (some ⟨w.heap.size,0,none⟩)) true ty).run prog (w.iter s pos)=_:=fun ty=>run_next_any w s pos ty aj
    have dZ:=zab (zx4 _ (by omega:128<=(s[pos]'aj).toNat));have hd:=(decode_high s pos aj (by omega)).1;have tz:=zab (zx5 ((Utf8.decode s pos).1:Int) (by omega));clear hb hd;go_wp2_with fail
    refine (zmr _ _).mono ?_;rintro e w' ⟨rfl,rfl⟩;rw[tz.o];go_wp2_with fail
    go_ret
    refine ⟨?_,_,rfl⟩;rw[zgg s.data.toList pos (by simp;omega) (fun j h hj=>hall.o j (by simpa using h) hj) (fun h=>dZ.o)];rfl
  ·have gx:∀ ty,(Instr.next (.pointer (some ⟨w.heap.size,0,none⟩)) true ty).run prog (w.iter s pos)=_:=fun ty=>run_next_end w s pos ty aj
   go_wp2_with fail
   go_ret
   refine ⟨?_,_,rfl⟩;rw[zgg s.data.toList s.size (by simp) (fun j h hj=>hall.o j (by simpa using h) (by omega)) (fun h=>by simp at h)];rfl
theorem zwj(s:ByteArray)(w:World)(_hs:s.size<9223372036854775807):
  Calls prog 188 #[.string s,.func (.func 245) #[] #[]] w fun e w'=>e=.returned (.int .i64 (s.data.toList.takeWhile Th.zba).length)/\∃ pos,w'=w.alloc (.stringIter s pos):=by
 go_enter func188,ntmps188
 go_wp2_with fail
 go_loopw [5] (fun _ w'=>∃ pos:Nat,w'=w.iter s pos/\pos<=s.size/\Hid (∀ j (h:j<s.size),j<pos->Th.zba s[j]=true)) (fun _ w'=>s.size-w'.iterPos w.heap.size)
 case atStart=>exact ⟨0,rfl,zy5 _,zab (fun _ _ h=>by omega)⟩
 case round=>
  obtain ⟨pos,rfl,hp,hall⟩:=hrel;by_cases aj:pos<s.size
  ·by_cases hb:(s[pos]'aj).toNat<128
   ·have gx:∀ ty,(Instr.next (.pointer (some ⟨w.heap.size,0,none⟩)) true ty).run prog (w.iter s pos)=_:=fun ty=>run_next_ascii w s pos ty aj hb
    have nV:=zab (zsS (s[pos]'aj) hb);clear hb;cases hv:Th.zba s[pos]
    ·have dZ:=zab hv;clear hv;go_wp2_with fail
     refine (zeh _ _).mono ?_;rintro e w' ⟨rfl,rfl⟩;rw[<-nV.o,dZ.o];go_wp2_with fail
     go_ret
     refine ⟨?_,_,rfl⟩;rw[zgg s.data.toList pos (by simp;omega) (fun j h hj=>hall.o j (by simpa using h) hj) (fun h=>dZ.o)];rfl
    ·have dZ:=zab hv;clear hv;go_wp2_with fail
     refine (zeh _ _).mono ?_;rintro e w' ⟨rfl,rfl⟩;rw[<-nV.o,dZ.o];go_wp2_with fail
     go_roundw
     case rel=>
      refine ⟨pos+1,rfl,by omega,zab fun j h hj=>?_⟩;by_cases e:j=pos
      ·subst e;exact dZ.o
      ·exact hall.o j h (by omega)
     case measure=>
      simp;omega
   ·have gx:∀ ty,(Instr.next (.pointer (some ⟨w.heap.size,0,none⟩)) true ty).run prog (w.iter s pos)=_:=fun ty=>run_next_any w s pos ty aj
    have dZ:=zab (zvo _ (by omega:128<=(s[pos]'aj).toNat));have hd:=(decode_high s pos aj (by omega)).1;have tz:=zab (zvp ((Utf8.decode s pos).1:Int) (by omega));clear hb hd;go_wp2_with fail
    refine (zeh _ _).mono ?_;rintro e w' ⟨rfl,rfl⟩;rw[tz.o];go_wp2_with fail
    go_ret
    refine ⟨?_,_,rfl⟩;rw[zgg s.data.toList pos (by simp;omega) (fun j h hj=>hall.o j (by simpa using h) hj) (fun h=>dZ.o)];rfl
  ·have gx:∀ ty,(Instr.next (.pointer (some ⟨w.heap.size,0,none⟩)) true ty).run prog (w.iter s pos)=_:=fun ty=>run_next_end w s pos ty aj
   go_wp2_with fail
   go_ret
   refine ⟨?_,_,rfl⟩;rw[zgg s.data.toList s.size (by simp) (fun j h hj=>hall.o j (by simpa using h) (by omega)) (fun h=>by simp at h)];rfl
abbrev zsb (k:Nat) (s:List UInt8) (p:Int):Value:=.agg #[.int .i64 k,.string ⟨s.toArray⟩,.int .i64 p]
theorem sz(s:ByteArray):s.data.toList.length=s.size:=by simp
theorem znp(s:ByteArray):(⟨s.data.toList.toArray⟩:ByteArray)=s:=by cases s;simp
theorem zrL(s:ByteArray)(w:World)(_hs:s.size<9223372036854775807):
  Calls prog 246 #[.string s] w fun e w'=>e=.returned (zsb (Th.zo7 s.data.toList).1 (Th.zo7 s.data.toList).2 0)/\Below w.heap.size w w':=by
 by_cases h:9<s.size
 ·have e:Th.zo7 s.data.toList=(1,[]):=by simp[Th.zo7,h]
  rw[e];clear e;go_enter func246,ntmps246
  go_wp2_with fail
  go_returns
  exact ⟨rfl,zam _ _⟩
 ·have e:Th.zo7 s.data.toList=(3,s.data.toList):=by simp[Th.zo7,h]
  rw[e];clear e;go_enter func246,ntmps246
  go_wp2_with fail
  go_returns
  exact ⟨by rw[zsb,znp];rfl,zam _ _⟩
theorem zwF(s:ByteArray)(w:World):
  Calls prog 243 #[.string s] w fun e w'=>e=.returned (zsb (Th.word s.data.toList).1 (Th.word s.data.toList).2 0)/\Below w.heap.size w w':=by
 cases h0:s.toList == [108,101,116]
 case true=>
  have e:Th.word s.data.toList=(4,s.data.toList):=by
   rw[<-ByteArray.toList_eq];simp only[Th.word,Th.zxv,Th.zqP,Th.zo8,Th.sIn,Th.zjO,Th.sOf,h0,zAv,if_true]
  rw[e];clear e;go_enter func243,ntmps243
  go_wp2_with fail
  go_returns
  exact ⟨by rw[zsb,znp];rfl,zam _ _⟩
 cases h1:s.toList == [114,101,99]
 case true=>
  have e:Th.word s.data.toList=(4,s.data.toList):=by
   rw[<-ByteArray.toList_eq];simp only[Th.word,Th.zxv,Th.zqP,Th.zo8,Th.sIn,Th.zjO,Th.sOf,h0,h1,zAu,zAv,if_true]
  rw[e];clear e;go_enter func243,ntmps243
  go_wp2_with fail
  go_returns
  exact ⟨by rw[zsb,znp];rfl,zam _ _⟩
 cases h2:s.toList == [105,110]
 case true=>
  have e:Th.word s.data.toList=(4,s.data.toList):=by
   rw[<-ByteArray.toList_eq];simp only[Th.word,Th.zxv,Th.zqP,Th.zo8,Th.sIn,Th.zjO,Th.sOf,h0,h1,h2,zAu,zAv,zAm,if_true]
  rw[e];clear e;go_enter func243,ntmps243
  go_wp2_with fail
  go_returns
  exact ⟨by rw[zsb,znp];rfl,zam _ _⟩
 cases h3:s.toList == [99,97,115,101]
 case true=>
  have e:Th.word s.data.toList=(4,s.data.toList):=by
   rw[<-ByteArray.toList_eq];simp only[Th.word,Th.zxv,Th.zqP,Th.zo8,Th.sIn,Th.zjO,Th.sOf,h0,h1,h2,h3,zAu,zAv,zAm,if_true]
  rw[e];clear e;go_enter func243,ntmps243
  go_wp2_with fail
  go_returns
  exact ⟨by rw[zsb,znp];rfl,zam _ _⟩
 cases h4:s.toList == [111,102]
 case true=>
  have e:Th.word s.data.toList=(4,s.data.toList):=by
   rw[<-ByteArray.toList_eq];simp only[Th.word,Th.zxv,Th.zqP,Th.zo8,Th.sIn,Th.zjO,Th.sOf,h0,h1,h2,h3,h4,zAu,zAm,if_true]
  rw[e];clear e;go_enter func243,ntmps243
  go_wp2_with fail
  go_returns
  exact ⟨by rw[zsb,znp];rfl,zam _ _⟩
 have e:Th.word s.data.toList=(2,s.data.toList):=by
  rw[<-ByteArray.toList_eq];simp only[Th.word,Th.zxv,Th.zqP,Th.zo8,Th.sIn,Th.zjO,Th.sOf,h0,h1,h2,h3,h4,zAm];rfl
 rw[e];clear e;go_enter func243,ntmps243
 go_wp2_with fail
 go_returns
 exact ⟨by rw[zsb,znp];rfl,zam _ _⟩
theorem zyu(s:List UInt8)(a b:UInt8):Lib.hasPrefix s [a,b]=(s.take 2 == [a,b]):=by
 cases s with
 |nil=>rfl
 |cons c s=>cases s with
  |nil=>simp[Lib.hasPrefix,List.isPrefixOf]
  |cons d s=>
   rw[zAa];simp[Lib.hasPrefix,List.isPrefixOf];constructor
   ·rintro ⟨rfl,rfl⟩;exact ⟨rfl,rfl⟩
   ·rintro ⟨rfl,rfl⟩;exact ⟨rfl,rfl⟩
theorem zjl(l:List UInt8)(c:UInt8):0<=Lib.indexByte l c↔c∈l:=by
 induction l with
 |nil=>simp[Lib.indexByte]
 |cons b l ih=>
  have hg:=Lib.indexByte_ge l c;simp only[Lib.indexByte];by_cases h:b=c
  ·simp[h]
  ·have h':¬ c=b:=fun e=>h e.symm
   simp only[beq_iff_eq,h,if_false,zzo,h',false_or,<-ih];split <;> omega
variable {l:List UInt8}
theorem zjS(h:(l.take 2 == [45,62]||l.take 2 == [61,61])=true):Th.zbH l=2:=by
 simp only[Th.zbH,h,if_true]
theorem zpO{c:UInt8}{r:List UInt8}(e:l=c::r)(h:(l.take 2 == [45,62]||l.take 2 == [61,61])=false)(h1:0<=Lib.indexByte Th.zpP c):Th.zbH l=1:=by
 subst e;have hc:Th.zpP.contains c=true:=by simpa using (zjl _ _).1 h1
 simp only[Th.zbH,h,zzw,if_false,hc,if_true]
theorem zrW{c:UInt8}{r:List UInt8}(e:l=c::r)(h:(l.take 2 == [45,62]||l.take 2 == [61,61])=false)(h1:¬ 0<=Lib.indexByte Th.zpP c):Th.zbH l=0:=by
 subst e;have hc:Th.zpP.contains c=false:=by rw[<-Bool.not_eq_true];intro hc;exact h1 ((zjl _ _).2 (by simpa using hc))
 simp only[Th.zbH,h,zzw,if_false,hc]
theorem zpe(s:ByteArray)(h:0<s.size):∃ r,s.data.toList=s[0]::r:=by
 cases s with
 |mk d=>cases d with
  |mk l=>cases l with
   |nil=>exact absurd h (by decide)
   |cons c r=>exact ⟨r,rfl⟩
theorem zkJ(s:ByteArray)(w:World)(h0:0<s.size):
  Calls prog 247 #[.string s] w fun e w'=>e=.returned (.int .i64 (Th.zbH s.data.toList))/\w'=w:=by
 obtain ⟨r,hr⟩:=zpe s h0;have Hr:=zab hr;clear hr;cases h1:s.data.toList.take 2 == [45,62]
 ·have H1:=zab h1;clear h1;cases h2:s.data.toList.take 2 == [61,61]
  ·have H2:=zab h2;clear h2;have H0:=zab (show (s.data.toList.take 2 == [45,62]||s.data.toList.take 2 == [61,61])=false by rw[H1.o,H2.o];rfl);go_enter func247,ntmps247
   go_wp2_with fail
   refine (Tryz.strings_HasPrefix _ _ _).mono ?_;rintro e w' ⟨rfl,rfl⟩;rw[show Lib.hasPrefix s.data.toList (ByteArray.mk #[45,62]).data.toList=false from (zyu _ _ _).trans H1.o];go_wp2_with fail
   refine (Tryz.strings_HasPrefix _ _ _).mono ?_;rintro e w' ⟨rfl,rfl⟩;rw[show Lib.hasPrefix s.data.toList (ByteArray.mk #[61,61]).data.toList=false from (zyu _ _ _).trans H2.o];go_wp2_with fail
   refine (Tryz.strings_IndexByte _ _ _).mono ?_;rintro e w' ⟨rfl,rfl⟩;go_wp2_with fail
   ·have hw:0<=Lib.indexByte [61,59,40,41,123,125,44,60,62,46,92,43,45,42,47] s[0]:=by assumption
    go_ret
    exact ⟨by rw[zpO Hr.o H0.o hw];rfl,rfl⟩
   ·have hw:Lib.indexByte [61,59,40,41,123,125,44,60,62,46,92,43,45,42,47] s[0]<0:=by assumption
    go_ret
    exact ⟨by rw[zrW Hr.o H0.o (by show ¬ 0<=Lib.indexByte [61,59,40,41,123,125,44,60,62,46,92,43,45,42,47] s[0];omega)];rfl,rfl⟩
  ·have H2:=zab h2;clear h2;have H0:=zab (show (s.data.toList.take 2 == [45,62]||s.data.toList.take 2 == [61,61])=true by rw[H1.o,H2.o];rfl);go_enter func247,ntmps247
   go_wp2_with fail
   refine (Tryz.strings_HasPrefix _ _ _).mono ?_;rintro e w' ⟨rfl,rfl⟩;rw[show Lib.hasPrefix s.data.toList (ByteArray.mk #[45,62]).data.toList=false from (zyu _ _ _).trans H1.o];go_wp2_with fail
   refine (Tryz.strings_HasPrefix _ _ _).mono ?_;rintro e w' ⟨rfl,rfl⟩;rw[show Lib.hasPrefix s.data.toList (ByteArray.mk #[61,61]).data.toList=true from (zyu _ _ _).trans H2.o];go_wp2_with fail
   go_ret
   exact ⟨by rw[zjS H0.o];rfl,rfl⟩
 ·have H1:=zab h1;clear h1;have H0:=zab (show (s.data.toList.take 2 == [45,62]||s.data.toList.take 2 == [61,61])=true by rw[H1.o];rfl);go_enter func247,ntmps247
  go_wp2_with fail
  refine (Tryz.strings_HasPrefix _ _ _).mono ?_;rintro e w' ⟨rfl,rfl⟩;rw[show Lib.hasPrefix s.data.toList (ByteArray.mk #[45,62]).data.toList=true from (zyu _ _ _).trans H1.o];go_wp2_with fail
  go_ret
  exact ⟨by rw[zjS H0.o];rfl,rfl⟩
end Go.Proofs.YtgahgkddaljmkaaGreatDoor
