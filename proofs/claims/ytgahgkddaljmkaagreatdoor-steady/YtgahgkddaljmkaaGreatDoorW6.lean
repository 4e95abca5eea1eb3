/- Mach24 .. Mach27 -/
import Derived.Test.YtgahgkddaljmkaaGreatDoorW5
set_option maxRecDepth 100000
set_option maxHeartbeats 4000000
namespace Go.Proofs.YtgahgkddaljmkaaGreatDoor
open Tryz
open Go.RowKit
attribute [local go_sem ↓] Go.wp_at_zero Go.wp_at_succ
def MSt.extended (m:MSt) (has c:Nat):Option MSt:=
 match m.s.nodeAt 0 with
 |none=>none
 |some (a,y)=>if has+c<4096/\y/65536<=1000000000/\a+1+cnt y<=m.s.ws.length/\(m.s.free<a+1\/a+1+cnt y<=m.s.free)/\1<=c then
   match m.s.node (Hd 2 (y/65536).toNat (has+c)) (m.s.words (a+1) (cnt y)) with
   |none=>none
   |some s2=>if s2.ws[a]?=some y/\s2.ws.length=m.s.ws.length/\s2.top+2+c<=s2.ws.length/\s2.free+c<=s2.ws.length then
     (Sto.pop { s2 with ws:=Go.splice s2.ws s2.free (s2.words (s2.top+2) c),free:=s2.free+c } (2+c)).bind fun s4=>(s4.push m.s.free).map fun s5=>{ m with s:=s5 }
    else none
  else none
def MSt.extend (m:MSt) (c:Nat):Option (Except Nat MSt):=
 match m.s.nodeAt 0 with
 |none=>none
 |some (_,y)=>aft (m.zdI (1+cnt y+c)) fun m1=>(m1.extended (cnt y) c).map .ok
variable {wb c:Nat}
theorem zvj{tp R:Nat}(hR:R≠0):∀ W:World,(Instr.slice 76 (.slice (some ⟨wb,tp,none⟩) (2+c) (R+2)) (some (.int .i64 2)) none none).run prog W=.ok (.slice (some ⟨wb,tp+2,none⟩) c R) W:=by
 intro W;rw[run_slice_l W 76 _ _ _ underlying76 .i64 2 (by omega) (by omega)];have e3:prog.elem 76=2:=by kernel_rfl
 rw[e3,sizeOf2];have e4:((2:Int)).toNat=2:=rfl;simp only[Result.andThen,sliced,e4,zAt,zzP,zbe];rw[if_neg (by omega),show 2+c-2=c by omega,show R+2-2=R by omega]
variable {w:World}
variable {mb:Nat}
variable {fv:Value}
variable {m m':MSt}
variable {a:Nat}
theorem zs2{m1:MSt}{y:Int}(h:MAt w mb wb fv m)(ha:m.s.nodeAt 0=some (a,y))(hn:m.zdI (1+cnt y+c)=some (.ok m1))(he:m1.extended (cnt y) c=some m'):
  Calls prog 255 #[.pointer (some ⟨mb,0,none⟩),.int .i64 c] w fun e w'=>Ends w mb wb fv (.ok m') e w':=by
 obtain ⟨hx,hh⟩:=Sto.zaP ha;obtain ⟨hy,aT,bE,aU⟩:=Sto.zaU hh;unfold MSt.extended at he;split at he
 ·cases he
 ·next a1 y1 gm=>
  split at he
  ·next hg=>
   split at he
   ·cases he
   ·next s2 bg=>
    obtain ⟨ws,hf,lo,fr,tp⟩:=s2;simp only at he;split at he
    ·next aF=>
     simp only[zyQ,zyX]at he;obtain ⟨s4,dW,s5,aM,rfl⟩:=he;obtain ⟨ee,sq⟩:=Sto.zaP gm;obtain ⟨hz,bq,aP,oR⟩:=Sto.zaU sq;have c0:=h.sat.c0;have cy:=h.sat.word hy;have eo:(a:Int)<(m.s.ws.length:Int):=by omega
     have CC:=zab (fun W:World=>za3 y W aT bE);rw[zh9 aT]at CC;have aN:=zf2 y;have CA:=zab (fun n:Nat=>zaA (d:=0) (h.drewN n).sat _ hx);have HH:=zab h;have CN:=zab (fun (W:World) (hW:MAt W mb wb fv m)=>zaW hW hn);simp only[zzq,zzJ]at CN;have CW:=zab (fun W:World=>zbw y1 W bq aP);obtain ⟨b,hb⟩:∃ b:Nat,y1/65536=b:=⟨(y1/65536).toNat,by omega⟩;rw[hb]at CW hg;rw[hb,zy2]at bg;have CH:=zab (fun W:World=>zbt 2 b (cnt y+c) W (by omega) (by omega) (by omega));simp only[zzq]at CH;obtain ⟨z,kk⟩:∃ z,Hd 2 b (cnt y+c)=z:=⟨_,rfl⟩;rw[kk]at CH bg;obtain ⟨L,hL⟩:∃ L,m1.s.ws.length=L:=⟨_,rfl⟩;have Gs:L<=1000000:=by have:=(zmx hn);have:=h.sat.len;omega
     have tD:ws.length=L:=by rw[<-hL];exact aF.2.1
     obtain ⟨R,hR⟩:∃ R,L=tp+(R+2):=⟨L-tp-2,by omega⟩;have rT:(c:Int)<=(R:Int):=by omega
     have rI:R≠0:=by omega
     have nI:(R:Int)<=1000000:=by omega
     have ak:fr+c<=L:=by omega
     have Aa:(a1:Int)<(L:Int):=by omega
     have dk:(Sto.words ⟨ws,hf,lo,fr,tp⟩ (tp+2) c).length=c:=Sto.zcR (by simp only;omega);have lK:∀ (j:Nat) x,(Sto.words ⟨ws,hf,lo,fr,tp⟩ (tp+2) c)[j]?=some x->ws[tp+2+j]?=some x:=fun j x hj=>(Sto.zd7 hj).2
     generalize Sto.words ⟨ws,hf,lo,fr,tp⟩ (tp+2) c=xs at dk lK dW;have mD:=zab lK;have HR:=zab hR;have yW:=zab ak;have jg:=zab tD;have HL:=zab hL;have eR:=zab ee;have HZ:=zab (And.intro hz (And.intro bq (And.intro aP hg.2.2.1)));have ue:=zab (And.intro bg hg.2.2.2.1);have eK:=zab aF;have kE:=zab dW;have je:=zab aM;have jj:(c:Int)<4096:=by omega
     have bH:=hg.2.2.2.2;generalize cnt y=k at *;have kj:(k:Int)<4096:=by omega
     clear h ha hx hy hh hn aT bE aU gm ee sq hz bq aP oR hg aF bg dW aM hb kk lK tD hL hR ak;go_enter func255,ntmps255
     go_wp2_with fail
     go_quiet ((first|(go_at_call 82;exact Calls.quiet_of (CA.o _))|(go_at_call 85;exact Calls.quiet_of_same (CC.o _))))
     have H1:=zab (HH.o.drewN nq);have F1:Hid (Fr (MB mb wb fv) w (w.drewN nq)):=zab ((Fr.refl _ _).drewN nq);generalize w.drewN nq=w1 at H1 F1;clear c0 cy;go_wp2_with fail
     refine (CN.o _ H1.o).mono ?_;rintro e w2 ⟨f2,rfl,h2⟩;have H2:=zab h2;have F2:=zab (F1.o.trans f2);clear h2 f2 CN;go_wp2_with fail
     refine (zaA (d:=0) H2.o.sat _ eR.o).mono ?_;rintro e w3 ⟨rfl,k3,bL⟩;have H3:Hid (MAt w3 mb wb fv m1):=zab (by rw[bL];exact H2.o.drewN k3);have F3:Hid (Fr (MB mb wb fv) w w3):=zab (by rw[bL];exact F2.o.drewN k3);clear bL;have c0:=H3.o.sat.c0;rw[HL.o]at c0;have cy:=H3.o.sat.word HZ.o.1;have uS:IntKind.i64.wrap ((k:Int)+(c:Int))=(k:Int)+(c:Int):=zbc _ (by omega) (by omega);go_wp2_with fail
     go_region_held3 (fun W=>W.cell? ⟨mb,0,none⟩=some (.slice (some ⟨wb,0,none⟩) L L)/\W.cell? ⟨wb,a1,none⟩=some (.int .i64 y1)) (first|go_keep|(refine ⟨?_,?_⟩ <;> assumption)) (first
      |(go_at_call 84;refine (CW.o _).mono ?_;rintro e w4 ⟨rfl,uR⟩;subst w4)
      |(go_at_call 75;refine (CH.o _).mono ?_;rintro e w4 ⟨rfl,uR⟩;subst w4)
      |(go_at_call 135;refine (zcA H3.o.sat.drew a1 y1 HZ.o.1 HZ.o.2.1 HZ.o.2.2.1 HZ.o.2.2.2).mono ?_;rintro e w5 ⟨rfl,k5,dK⟩;have H5:Hid (SAt w5 mb wb (zeu m1.o fv) m1.s):=zab (by rw[dK];exact H3.o.sat.drew.drewN k5);have F5:Hid (Fr (M2 mb wb) w3 w5):=zab (by rw[dK];exact (Fr.refl _ _).drew.drewN k5);have e0:w5.cell? ⟨mb,0,none⟩=some (.slice (some ⟨wb,0,none⟩) L L):=(by rw[H5.o.c0,HL.o]);have ey:=H5.o.word HZ.o.1;clear dK)
      |(go_at_call 74;refine (Sto.zqI H5.o ue.o.1 ue.o.2 HZ.o.2.2.2 (fun h0=>zbT (by have:=HZ.o.2.2.2;omega))).mono ?_;rintro e w6 ⟨rfl,h6,f6⟩;have H6:=zab h6;have F6:=zab (F5.o.trans f6);have g0:w6.cell? ⟨mb,0,none⟩=some (.slice (some ⟨wb,0,none⟩) L L):=(by rw[h6.c0];simp only;rw[jg.o]);have gy:=h6.word eK.o.1;clear h6 f6))
     all_goals
      clear c0 cy e0 ey g0 gy;have hR:=HR.o;have ak:=yW.o;have c0:w6.cell? ⟨mb,0,none⟩=some (.slice (some ⟨wb,0,none⟩) L L):=by rw[H6.o.c0];simp only;rw[jg.o]
      have c3:w6.cell? ⟨mb,3,none⟩=some (.int .i64 fr):=H6.o.c3;have CS:=zab (zeZ H6.o.drew (2+c) (by simp only;rw[jg.o];omega));simp only[zzq,zzJ,jg.o,zbT (show tp<L by omega),show L-tp=R+2 by omega]at CS;have aA:(fr:Int)<=(L:Int):=by omega
      have aw:(0:Int)<=(fr:Int):=by omega
      have aj:fr<L:=by omega
      have aH:¬ L=fr:=by omega
      have tC:IntKind.i64.wrap (2+(c:Int))=2+(c:Int):=zbc _ (by omega) (by omega);have aJ:fr+xs.length<=ws.length:=by rw[jg.o];omega
      have fZ:=zab aJ;have py:=zvj (wb:=wb) (tp:=tp) (c:=c) rI;clear hR aJ;go_wp2_with fail
      go_region_held3 (fun W=>W.cell? ⟨mb,0,none⟩=some (.slice (some ⟨wb,0,none⟩) L L)/\W.cell? ⟨mb,3,none⟩=some (.int .i64 fr)) (first|go_keep|(refine ⟨?_,?_⟩ <;> assumption)) (first
       |(go_at_call 136;refine CS.o.mono ?_;rintro e w7 ⟨rfl,k7,og⟩;have H7:Hid (SAt w7 mb wb (zeu m1.o fv) ⟨ws,hf,lo,fr,tp⟩):=zab (by rw[og];exact H6.o.drew.drewN k7);have F7:Hid (Fr (M2 mb wb) w3 w7):=zab (by rw[og];exact F6.o.drew.drewN k7);have d0:w7.cell? ⟨mb,0,none⟩=some (.slice (some ⟨wb,0,none⟩) L L):=(by rw[H7.o.c0];simp only;rw[jg.o]);have d3:w7.cell? ⟨mb,3,none⟩=some (.int .i64 fr):=H7.o.c3;clear og)
       |(refine za6 (by rfl) _ _ (by rfl) H7.o fr _ _ _ _ _ (by rfl) (by rfl) xs (by rw[dk];exact (zzV (by omega)).symm) (fun h0=>⟨_,rfl,fun j x hj=>by rw[zbe];exact H7.o.word (mD.o j x hj)⟩) fZ.o ?_;intro w8 h8 f8;have H8:=zab h8;have F8:=zab (F7.o.trans f8);have e0:w8.cell? ⟨mb,0,none⟩=some (.slice (some ⟨wb,0,none⟩) L L):=(by rw[h8.c0];simp only;rw[zaY _ _ _ fZ.o,jg.o]);have e3:w8.cell? ⟨mb,3,none⟩=some (.int .i64 fr):=h8.c3;clear h8 f8))
      all_goals
       clear c0 c3 d0 d3 e0 e3 py aH aj aA aw;have c3:w8.cell? ⟨mb,3,none⟩=some (.int .i64 fr):=H8.o.c3;have cf:=H8.o.blk.frozen 3;have ak:=yW.o;have Fu:IntKind.i64.wrap ((fr:Int)+(c:Int))=(fr:Int)+(c:Int):=zbc _ (by omega) (by omega);have H9:=zab (H8.o.zjP (fr+c) (by omega));have F9:Hid (Fr (M2 mb wb) w3 (w8.setCell ⟨mb,3,none⟩ (.int .i64 ((fr+c:Nat):Int)))):=zab (F8.o.set _ _ (.inl (.inl rfl)));have yI:=zab (fun (W:World) (hW:SAt W mb wb (zeu m1.o fv) _)=>Sto.zbQ hW kE.o);simp only[zzq,zzJ]at yI H9 F9;clear ak;go_wp2_with fail
       generalize w8.setCell ⟨mb,3,none⟩ (.int .i64 ((fr:Int)+(c:Int)))=w9 at H9 F9 ⊢;clear c3 cf;go_wp2_with fail
       refine (yI.o _ H9.o).mono ?_;rintro e pB ⟨rfl,uz,f10⟩;have Bz:=zab uz;have Br:=zab (F9.o.trans f10);clear uz f10;go_wp2_with fail
       refine (Sto.zb5 Bz.o je.o).mono ?_;rintro e yE ⟨rfl,zA,f11⟩;have ot:=zab zA;have mo:=zab (Br.o.trans f11);clear zA f11;go_wp2_with fail
       first|go_end0|refine bodyPost_ret (results_none rfl _ _ _) rfl ?_
       exact ⟨F3.o.trans (mo.o.zc9 fv),rfl,H3.o.fr2 ot.o mo.o⟩
    ·cases he
  ·cases he
theorem zrr{k:Nat}{y:Int}(h:MAt w mb wb fv m)(jl:c<=1000000)(ha:m.s.nodeAt 0=some (a,y))(hn:m.zdI (1+cnt y+c)=some (.error k)):
  Calls prog 255 #[.pointer (some ⟨mb,0,none⟩),.int .i64 c] w fun e w'=>Ends w mb wb fv (.error k) e w':=by
 obtain ⟨hx,hh⟩:=Sto.zaP ha;obtain ⟨hy,aT,bE,aU⟩:=Sto.zaU hh;have c0:=h.sat.c0;have cy:=h.sat.word hy;have eo:(a:Int)<(m.s.ws.length:Int):=by omega
 have CC:=zab (fun W:World=>za3 y W aT bE);rw[zh9 aT]at CC;have aN:=zf2 y;have CA:=zab (fun n:Nat=>zaA (d:=0) (h.drewN n).sat _ hx);have HH:=zab h;have CN:=zab (fun (W:World) (hW:MAt W mb wb fv m)=>zaW hW hn);simp only[zzq,zzJ]at CN;generalize cnt y=k at *;have kj:(k:Int)<4096:=by omega
 have jj:(c:Int)<=1000000:=by omega
 clear h ha hx hy hh hn aT bE aU jl;go_enter func255,ntmps255
 go_wp2_with fail
 go_quiet ((first|(go_at_call 82;exact Calls.quiet_of (CA.o _))|(go_at_call 85;exact Calls.quiet_of_same (CC.o _))))
 have H1:=zab (HH.o.drewN nq);have F1:Hid (Fr (MB mb wb fv) w (w.drewN nq)):=zab ((Fr.refl _ _).drewN nq);generalize w.drewN nq=w1 at H1 F1;clear c0 cy;go_wp2_with fail
 refine (CN.o _ H1.o).mono ?_;rintro e w2 ⟨f2,rfl,h2⟩;exact ⟨rfl,F1.o.trans f2,rfl,h2⟩
variable {r:Except Nat MSt}
theorem zrq(h:MAt w mb wb fv m)(jl:c<=1000000)(hb:m.extend c=some r):
  Calls prog 255 #[.pointer (some ⟨mb,0,none⟩),.int .i64 c] w fun e w'=>Ends w mb wb fv r e w':=by
 unfold MSt.extend at hb;split at hb
 ·cases hb
 ·next a y ha=>
  unfold aft at hb;split at hb
  ·cases hb
  ·next k hn=>obtain rfl:=zyU hb;exact zrr h jl ha hn
  ·next m1 hn=>
   simp only[zyX]at hb;obtain ⟨m2,h2,rfl⟩:=hb;exact zs2 h ha hn h2
theorem zqH(h:m.zdI c=some (.ok m')):m'.o=m.o:=by
 unfold MSt.zdI at h;split at h
 ·cases h;rfl
 ·split at h
  ·cases h
  ·split at h
   ·cases h
   ·cases h;rfl
theorem zqt(h:m.extend c=some (.ok m')):m'.o=m.o:=by
 unfold MSt.extend at h;split at h
 ·cases h
 ·unfold aft at h;split at h
  ·cases h
  ·cases h
  ·next m1 hn=>
   simp only[zyX]at h;obtain ⟨m2,h2,h3⟩:=h;cases h3;rw[<-zqH hn];unfold MSt.extended at h2;split at h2
   ·cases h2
   ·split at h2
    ·split at h2
     ·cases h2
     ·split at h2
      ·simp only[zyQ,zyX]at h2;obtain ⟨s4,_,s5,_,rfl⟩:=h2;rfl
      ·cases h2
    ·cases h2
def EndsB (w:World) (mb wb:Nat) (fv:Value) (r:Except Nat (Bool × MSt)) (e:Ending) (w':World):Prop:=
 Fr (MB mb wb fv) w w'/\match r with
 |.ok q=>e=.returned (.bool q.1)/\MAt w' mb wb fv q.2
 |.error k=>e=up k/\∃ m',MAt w' mb wb fv m'
def MSt.za5 (m:MSt) (sl:List Nat) (c:Nat):Option (Except Nat (Bool × MSt)):=
 match m.s.nodeAt 0 with
 |none=>none
 |some (a,_)=>
  match m.s.zfJ sl a with
  |none=>none
  |some l=>if l<0 then some (.error 3) else
   if (c:Int)<l then (match m.extend c with|none=>none|some (.error k)=>some (.error k)|some (.ok m')=>some (.ok (false,m')))
   else if 2000000<c then none
   else (match m.call l.toNat (c-l.toNat) with|none=>none|some (.error k)=>some (.error k)|some (.ok m')=>some (.ok (true,m')))
variable {sl:List Nat}
theorem zvL{pv:Value}(hB:BAt w mb wb fv pv sl){s:Sto}{l:Int}(hl:s.zfJ sl a=some l):l<=1000000:=by
 obtain ⟨_,_,_,_,_,h4⟩:=hB;unfold Sto.zfJ at hl;split at hl
 ·cases hl
 ·split at hl
  ·cases hl
  ·split at hl
   ·split at hl
    ·cases hl
    ·next n hn=>
     obtain rfl:=zyU hl;have:=(h4 _ n hn).1;omega
   ·obtain rfl:=zyU hl;omega
theorem zsv{r:Except Nat (Bool × MSt)}(h:MAt w mb wb fv m)(hB:BAt w mb wb fv m.o.pb sl)(hb:m.za5 sl c=some r)(jl:c<=1000000000):
  Calls prog 205 #[.pointer (some ⟨mb,0,none⟩),.int .i64 c] w fun e w'=>EndsB w mb wb fv r e w':=by
 unfold MSt.za5 at hb;split at hb
 ·cases hb
 ·next a y ha=>
  obtain ⟨hx,hh⟩:=Sto.zaP ha;split at hb
  ·cases hb
  ·next l hl=>
   have CA:=zab (zaA (d:=0) h.sat _ hx);have CL:=zab (fun (W:World) (hW:MAt W mb wb fv m) (rM:BAt W mb wb fv m.o.pb sl)=>zjp hW rM hl);have HH:=zab h;have HB:=zab hB;have o5:l<=1000000:=zvL hB hl;split at hb
   ·next dV=>
    obtain rfl:=zyU hb;clear h hB ha hx hh hl;go_enter func205,ntmps205
    go_wp2_with fail
    refine CA.o.mono ?_;rintro e w1 ⟨rfl,k1,aD⟩;have H1:Hid (MAt w1 mb wb fv m):=zab (by rw[aD];exact HH.o.drewN k1);have F1:Hid (Fr (MB mb wb fv) w w1):=zab (by rw[aD];exact (Fr.refl _ _).drewN k1);clear aD;go_wp2_with fail
    refine (CL.o _ H1.o (HB.o.fr F1.o)).mono ?_;rintro e w2 ⟨rfl,k2,aB⟩;have H2:Hid (MAt w2 mb wb fv m):=zab (by rw[aB];exact H1.o.drewN k2);have F2:Hid (Fr (MB mb wb fv) w w2):=zab (by rw[aB];exact F1.o.drewN k2);clear aB;go_wp2_with fail
    refine (zce 3 _).mono ?_;rintro e w4 ⟨rfl,uR⟩;subst w4;exact ⟨rfl,F2.o,rfl,_,H2.o⟩
   ·next dV=>
    obtain ⟨n,rfl⟩:∃ n:Nat,l=n:=⟨l.toNat,by omega⟩;rw[zy2]at hb;split at hb
    ·next aj=>
     have xp:c<=1000000:=by omega
     obtain ⟨q,hq⟩:∃ q,m.extend c=some q:=by
      cases hq:m.extend c with
      |none=>rw[hq]at hb;cases hb
      |some q=>exact ⟨q,rfl⟩
     rw[hq]at hb;have CE:=zab (fun (W:World) (hW:MAt W mb wb fv m)=>zrq hW xp hq);clear h hB ha hx hh hl dV;have lq:¬ (n:Int)<0:=by omega
     go_enter func205,ntmps205
     go_wp2_with fail
     refine CA.o.mono ?_;rintro e w1 ⟨rfl,k1,aD⟩;have H1:Hid (MAt w1 mb wb fv m):=zab (by rw[aD];exact HH.o.drewN k1);have F1:Hid (Fr (MB mb wb fv) w w1):=zab (by rw[aD];exact (Fr.refl _ _).drewN k1);clear aD;go_wp2_with fail
     refine (CL.o _ H1.o (HB.o.fr F1.o)).mono ?_;rintro e w2 ⟨rfl,k2,aB⟩;have H2:Hid (MAt w2 mb wb fv m):=zab (by rw[aB];exact H1.o.drewN k2);have F2:Hid (Fr (MB mb wb fv) w w2):=zab (by rw[aB];exact F1.o.drewN k2);clear aB;go_wp2_with fail
     refine (CE.o _ H2.o).mono ?_;cases q with
     |error k=>
      obtain rfl:=zyU hb;rintro e w3 ⟨f3,rfl,h3⟩;exact ⟨rfl,F2.o.trans f3,rfl,h3⟩
     |ok m'=>
      obtain rfl:=zyU hb;rintro e w3 ⟨f3,rfl,h3⟩;have F3:=zab (F2.o.trans f3);have H3:=zab h3;clear f3 h3 hb;go_wp2_with fail
      go_ret
      exact ⟨F3.o,rfl,H3.o⟩
    ·next aj=>
     split at hb
     ·cases hb
     ·next Eg=>
      obtain ⟨q,hq⟩:∃ q,m.call n (c-n)=some q:=by
       cases hq:m.call n (c-n) with
       |none=>rw[hq]at hb;cases hb
       |some q=>exact ⟨q,rfl⟩
      rw[hq]at hb;obtain ⟨d,hd⟩:∃ d,c-n=d:=⟨_,rfl⟩;rw[hd]at hq;have pg:IntKind.i64.wrap ((c:Int)-(n:Int))=(d:Int):=by rw[zbc _ (by omega) (by omega)];omega
      have CE:=zab (fun (W:World) (hW:MAt W mb wb fv m)=>zve hW hq);clear h hB ha hx hh hl dV;have lq:¬ (n:Int)<0:=by omega
      clear hd;go_enter func205,ntmps205
      go_wp2_with fail
      refine CA.o.mono ?_;rintro e w1 ⟨rfl,k1,aD⟩;have H1:Hid (MAt w1 mb wb fv m):=zab (by rw[aD];exact HH.o.drewN k1);have F1:Hid (Fr (MB mb wb fv) w w1):=zab (by rw[aD];exact (Fr.refl _ _).drewN k1);clear aD;go_wp2_with fail
      refine (CL.o _ H1.o (HB.o.fr F1.o)).mono ?_;rintro e w2 ⟨rfl,k2,aB⟩;have H2:Hid (MAt w2 mb wb fv m):=zab (by rw[aB];exact H1.o.drewN k2);have F2:Hid (Fr (MB mb wb fv) w w2):=zab (by rw[aB];exact F1.o.drewN k2);clear aB;go_wp2_with fail
      refine (CE.o _ H2.o).mono ?_;cases q with
      |error k=>
       obtain rfl:=zyU hb;rintro e w3 ⟨f3,rfl,h3⟩;exact ⟨rfl,F2.o.trans f3,rfl,h3⟩
      |ok m'=>
       obtain rfl:=zyU hb;rintro e w3 ⟨f3,rfl,h3⟩;have F3:=zab (F2.o.trans f3);have H3:=zab h3;clear f3 h3 hb;go_wp2_with fail
       go_ret
       exact ⟨F3.o,rfl,H3.o⟩
def waits (x:Int):Option (Nat × Nat):=if -4000000000<=x/\x<0 then some (((-x-1)%4).toNat,((-x-1)/4).toNat) else none
theorem zuN{x:Int}{k:Nat}(h:waits x=some (k,a)):x=Mk k a/\k<4/\a<=1000000000:=by
 unfold waits at h;split at h
 ·simp only[zyP,zzL]at h;obtain ⟨rfl,rfl⟩:=h;unfold Mk;omega
 ·cases h
def MSt.za1 (sl:List Nat):Nat->MSt->Option (Except Nat MSt)
 |0,_=>none
 |g+1,m=>
  if m.s.low+m.s.half<=m.s.top+1 then some (.ok { m with o:={ m.o with next:=-1 } }) else
  match m.s.ws[m.s.top+1]? with
  |none=>none
  |some x=>
   match waits x with
   |none=>none
   |some (k,a)=>
    if k=0 then (match m.s.update with|none=>none|some s'=>MSt.za1 sl g { m with s:=s' })
    else if k=1 then (match m.s.ws[m.s.top]? with
     |none=>none
     |some v=>(Sto.pop { m.s with ws:=m.s.ws.set (m.s.top+1) v } 1).map fun s'=>.ok { m with s:=s',o:={ m.o with next:=a } })
    else if k=2 then (match m.za5 sl a with
     |none=>none
     |some (.error j)=>some (.error j)
     |some (.ok q)=>if q.1=true then some (.ok q.2) else MSt.za1 sl g q.2)
    else none
theorem zra(h:m.za5 sl c=some (.ok (false,m'))):m'.o=m.o:=by
 unfold MSt.za5 at h;split at h
 ·cases h
 ·split at h
  ·cases h
  ·split at h
   ·cases h
   ·split at h
    ·split at h
     ·cases h
     ·cases h
     ·next hx=>cases h;exact zqt hx
    ·split at h
     ·cases h
     ·split at h
      ·cases h
      ·cases h
      ·cases h
theorem zsL{tp:Nat}:∀ (W:World) (v:Value),(W.setCell ⟨wb,tp+1,none⟩ v).cell? ⟨wb,tp,none⟩=W.cell? ⟨wb,tp,none⟩:=
 fun W v=>by apply World.cell?_setCell_other;simp
theorem zlq{g:Nat}(h:MAt w mb wb fv m)(hB:BAt w mb wb fv m.o.pb sl)(hb:MSt.za1 sl g m=some r):
  Calls prog 129 #[.pointer (some ⟨mb,0,none⟩)] w fun e w'=>Ends w mb wb fv r e w':=by
 have HH:=zab h;have HB:=zab hB;have HR:=zab hb;clear h hB hb;go_enter func129,ntmps129
 go_wp2_with fail
 go_loopg [2] g (fun gk _ wr=>∃ q:MSt,MAt wr mb wb fv q/\q.o.pb=m.o.pb/\MSt.za1 sl gk q=some r/\Fr (MB mb wb fv) w wr)
 case atStart=>exact ⟨m,HH.o,rfl,HR.o,Fr.refl _ _⟩
 case round=>
  obtain ⟨q,hq,iN,hg,ak⟩:=hrel;cases gk with
  |zero=>cases hg
  |succ k=>
   obtain ⟨⟨ws,hf,lo,fr,tp⟩,o,fns⟩:=q;rw[MSt.za1]at hg;simp only at hg iN;have hlen:ws.length<=1000000:=hq.sat.len;have tj:tp<=1000000:=hq.sat.top;have o5:lo<=1000000:=hq.sat.low;have Ez:hf<=1000000:=hq.sat.half;have c0:=hq.sat.c0;have c4:=hq.sat.c4;simp only at c0 c4;have CE:=zab (fun n:Nat=>zhJ (hq.drewN n).sat);simp only[zzq]at CE;have HQ:=zab hq;have cY:=zab ak;have lV:=zab iN;have uS:IntKind.i64.wrap ((tp:Int)+1)=(tp:Int)+1:=zbc _ (by omega) (by omega);clear hq ak iN;split at hg
   ·next cJ=>
    have r8:¬ ((tp:Int)+1<(lo:Int)+(hf:Int)):=by omega
    obtain rfl:=zyU hg;clear hg cJ;go_wp2_with fail
    go_quiet ((go_at_call 78;exact Calls.quiet_of (CE.o _)))
    have H1:=zab (HQ.o.drewN nq);have F1:=zab (cY.o.drewN nq);generalize wr.drewN nq=w1 at H1 F1;clear c0 c4;have d10:=H1.o.sat.c10;have df:=H1.o.sat.blk.frozen 10;go_wp2_with fail
    first|go_end0|refine bodyPost_ret (results_none rfl _ _ _) rfl ?_
    have f2:Fr (M2 mb wb) w1 (w1.setCell ⟨mb,10,none⟩ (.int .i64 (-1))):=(Fr.refl _ _).set _ _ (.inl (.inl rfl));exact ⟨F1.o.trans (f2.zc9 fv),rfl,H1.o.sat.zgs (-1),H1.o.fat.fr f2,H1.o.fl,H1.o.fuel⟩
   ·next cJ=>
    have r8:(tp:Int)+1<(lo:Int)+(hf:Int):=by omega
    split at hg
    ·cases hg
    ·next x hx=>
     split at hg
     ·cases hg
     ·next k1 a hw=>
      obtain ⟨rfl,kj,xh⟩:=zuN hw;have dk:=(zyL.1 hx).1;have CK:=zab (fun W:World=>zoV k1 a W kj xh);have CW:=zab (fun W:World=>znd k1 a W kj xh);obtain ⟨z,hz⟩:∃ z,Mk k1 a=z:=⟨_,rfl⟩;rw[hz]at CK CW hx;have cx:wr.cell? ⟨wb,tp+1,none⟩=some (.int .i64 z):=HQ.o.sat.word hx;have aA:(tp:Int)+1<(ws.length:Int):=by omega
      have kf:(0:Int)<=(tp:Int)+1:=by omega
      have HX:=zab hx;clear hw hz cJ hx;go_wp2_with fail
      go_quiet ((go_at_call 78;exact Calls.quiet_of (CE.o _)))
      have H1:=zab (HQ.o.drewN nq);have F1:=zab (cY.o.drewN nq);generalize wr.drewN nq=w1 at H1 F1;clear c0 c4 cx;have c0:=H1.o.sat.c0;have c4:=H1.o.sat.c4;have cx:w1.cell? ⟨wb,tp+1,none⟩=some (.int .i64 z):=H1.o.sat.word HX.o;simp only at c0 c4;go_wp2_with fail
      go_quiet (fail)
      have H2:=zab (H1.o.drewN nq);have F2:=zab (F1.o.drewN nq);generalize w1.drewN nq=w2 at H2 F2;clear c0 c4 cx;go_wp2_with fail
      refine (CK.o _).mono ?_;rintro e w3 ⟨rfl,bL⟩;subst w3;split at hg
      ·next hk=>
       subst hk;split at hg
       ·cases hg
       ·next s' hu=>
        have HU:=zab hu;have HG:=zab hg;clear hu hg;go_wp2_with fail
        refine (zsh H2.o.sat HU.o).mono ?_;rintro e w4 ⟨rfl,h4,f4⟩;have H4:=zab h4;have F4:=zab f4;clear h4 f4;go_wp2_with fail
        go_roundg k
        case measure=>omega
        case rel=>exact ⟨_,H2.o.fr2 H4.o F4.o,lV.o,HG.o,F2.o.trans (F4.o.zc9 fv)⟩
      ·next dF=>
       split at hg
       ·next hk=>
        subst hk;split at hg
        ·cases hg
        ·next v hv=>
         simp only[zyX]at hg;obtain ⟨s',jt,rfl⟩:=hg;have kE:=zab jt;have c0:=H2.o.sat.c0;have c4:=H2.o.sat.c4;have cv:w2.cell? ⟨wb,tp,none⟩=some (.int .i64 v):=H2.o.sat.word hv;have cx:w2.cell? ⟨wb,tp+1,none⟩=some (.int .i64 z):=H2.o.sat.word HX.o;have cf:=H2.o.sat.zeC.frozen (tp+1);have fP:=zcj H2.o.sat.ne;have sM:=zsL (wb:=wb) (tp:=tp);have dJ:=(zyL.1 hv).1;have bD:(tp:Int)<(ws.length:Int):=by omega
         simp only at c0 c4;clear jt hv;go_wp2_with fail
         go_region_held3 (fun W=>W.cell? ⟨mb,0,none⟩=some (.slice (some ⟨wb,0,none⟩) ws.length ws.length)/\W.cell? ⟨mb,4,none⟩=some (.int .i64 tp)/\W.cell? ⟨wb,tp,none⟩=some (.int .i64 v)) (first|go_keep|(refine ⟨?_,?_,?_⟩ <;> first|assumption|(rw[fP];assumption)|(rw[sM];assumption))) (fail)
         all_goals
          have H5:=zab (H2.o.sat.zcB (tp+1) v).drew;have F5:Hid (Fr (M2 mb wb) w2 ((w2.setCell ⟨wb,tp+1,none⟩ (.int .i64 v)).drew)):=zab ((Fr.refl _ _).set _ _ (.inl (.inr rfl))).drew;generalize (w2.setCell ⟨wb,tp+1,none⟩ (.int .i64 v)).drew=w5 at H5 F5;clear c0 c4 cv cx cf fP sM;go_wp2_with fail
          refine (Sto.zbQ H5.o kE.o).mono ?_;rintro e w6 ⟨rfl,h6,f6⟩;have H6:=zab h6;have F6:=zab (F5.o.trans f6);clear h6 f6;go_wp2_with fail
          refine (CW.o _).mono ?_;rintro e w7 ⟨rfl,og⟩;subst w7;have d10:=H6.o.c10;have df:=H6.o.blk.frozen 10;go_wp2_with fail
          first|go_end0|refine bodyPost_ret (results_none rfl _ _ _) rfl ?_
          have f7:Fr (M2 mb wb) w2 (w6.setCell ⟨mb,10,none⟩ (.int .i64 a)):=F6.o.set _ _ (.inl (.inl rfl));exact ⟨F2.o.trans (f7.zc9 fv),rfl,H6.o.zgs a,H2.o.fat.fr f7,H2.o.fl,H2.o.fuel⟩
       ·next cK=>
        split at hg
        ·next hk=>
         subst hk;have iN:=lV.o;obtain ⟨d,hd⟩:∃ d,(⟨⟨ws,hf,lo,fr,tp⟩,o,fns⟩:MSt).za5 sl a=some d:=by
          cases hd:(⟨⟨ws,hf,lo,fr,tp⟩,o,fns⟩:MSt).za5 sl a with
          |none=>rw[hd]at hg;cases hg
          |some d=>exact ⟨d,rfl⟩
         rw[hd]at hg;have gA:Hid (BAt w2 mb wb fv o.pb sl):=zab (by rw[iN];exact HB.o.fr F2.o);have CP:=zab (zsv H2.o gA.o hd xh);have HD:=zab hd;clear hd iN;go_wp2_with fail
         refine (CW.o _).mono ?_;rintro e w3 ⟨rfl,bL⟩;subst w3;go_wp2_with fail
         refine CP.o.mono ?_;cases d with
         |error j=>
          obtain rfl:=zyU hg;rintro e w4 ⟨f4,rfl,h4⟩;exact ⟨rfl,F2.o.trans f4,rfl,h4⟩
         |ok q=>
          obtain ⟨b,m'⟩:=q;rintro e w4 ⟨f4,rfl,h4⟩;have F4:=zab (F2.o.trans f4);have H4:=zab h4;clear f4 h4;cases b with
          |true=>
           obtain rfl:=zyU hg;go_wp2_with fail
           first|go_end0|refine bodyPost_ret (results_none rfl _ _ _) rfl ?_
           exact ⟨F4.o,rfl,H4.o⟩
          |false=>
           have HG:Hid (MSt.za1 sl k m'=some r):=zab (by simpa using hg);have HO:=zab (zra HD.o);clear hg;go_wp2_with fail
           go_roundg k
           case measure=>omega
           case rel=>exact ⟨_,H4.o,by rw[HO.o];exact lV.o,HG.o,F4.o⟩
        ·cases hg
def MSt.ztg (m:MSt):Nat:=m.s.low+m.s.half+1-m.s.top
def MSt.zcy (m:MSt) (sl:List Nat) (a:Nat):Option (Except Nat MSt):=
 match m.s.head a with
 |none=>none
 |some y=>if y%16=3 then some (.error 5) else
  match m.s.zfJ sl a with
  |none=>none
  |some l=>if l=0 then m.zdy else MSt.za1 sl m.ztg m
def MSt.enter (m:MSt) (sl:List Nat):Option (Except Nat MSt):=
 match m.s.nodeAt 0 with
 |none=>none
 |some (a,y)=>if y%16=4 then (if m.s.ws.length<m.s.top then none else MSt.zcy { m with s:={ m.s with ws:=m.s.ws.set m.s.top (y/65536) } } sl (y/65536).toNat) else m.zcy sl a
theorem znM(h:MAt w mb wb fv m)(hB:BAt w mb wb fv m.o.pb sl)(hb:m.enter sl=some r):
  Calls prog 77 #[.pointer (some ⟨mb,0,none⟩)] w fun e w'=>Ends w mb wb fv r e w':=by
 unfold MSt.enter at hb;split at hb
 ·cases hb
 ·next a y ha=>
  obtain ⟨hx,hh⟩:=Sto.zaP ha;obtain ⟨hy,aT,bE,aU⟩:=Sto.zaU hh;have CA:=zab (zaA (d:=0) h.sat _ hx);have CK:=zab (fun W:World=>za4 y W aT bE);have HH:=zab h;have HB:=zab hB;have HY:=zab hy;have eo:(a:Int)<(m.s.ws.length:Int):=by omega
  have hlen:m.s.ws.length<=1000000:=h.sat.len;split at hb
  ·next hk=>
   split at hb
   ·cases hb
   ·next aj=>
    have CW:=zab (fun W:World=>zbw y W aT bE);rw[hk]at CK;obtain ⟨b,iC⟩:∃ b:Nat,y/65536=b:=⟨(y/65536).toNat,by omega⟩;rw[iC]at CW hb;rw[zy2]at hb;have cu:=(zyL.1 hx).1;have Fc:(m.s.top:Int)<(m.s.ws.length:Int):=by omega
    have Dc:Hid (m.s.ws[m.s.top]?=some (a:Int)):=zab hx;clear h hB ha hx hh hy aU aT bE hk iC;go_enter func77,ntmps77
    go_wp2_with fail
    refine CA.o.mono ?_;rintro e w1 ⟨rfl,k1,aD⟩;have H1:Hid (MAt w1 mb wb fv m):=zab (by rw[aD];exact HH.o.drewN k1);have F1:Hid (Fr (MB mb wb fv) w w1):=zab (by rw[aD];exact (Fr.refl _ _).drewN k1);clear aD;have c0:=H1.o.sat.c0;have cy:=H1.o.sat.word HY.o;go_wp2_with fail
    refine (CK.o _).mono ?_;rintro e w2 ⟨rfl,aB⟩;subst w2;go_wp2_with fail
    refine (CW.o _).mono ?_;rintro e w2 ⟨rfl,aB⟩;subst w2;clear cy;have c4:=H1.o.sat.c4;have ct:=H1.o.sat.word Dc.o;have cf:=H1.o.sat.zeC.frozen m.s.top;have fP:=zcj H1.o.sat.ne;go_wp2_with fail
    go_region_held3 (fun W=>W.cell? ⟨mb,0,none⟩=some (.slice (some ⟨wb,0,none⟩) m.s.ws.length m.s.ws.length)/\W.cell? ⟨mb,4,none⟩=some (.int .i64 m.s.top)) (go_keep) (fail)
    all_goals
     have H5:=zab (H1.o.sat.zcB m.s.top b).drew;have F5:Hid (Fr (M2 mb wb) w1 ((w1.setCell ⟨wb,m.s.top,none⟩ (.int .i64 b)).drew)):=zab ((Fr.refl _ _).set _ _ (.inl (.inr rfl))).drew;generalize (w1.setCell ⟨wb,m.s.top,none⟩ (.int .i64 b)).drew=w3 at H5 F5;have H3:=zab (H1.o.fr2 H5.o F5.o);have F3:=zab (F1.o.trans (F5.o.zc9 fv));clear c0 c4 ct cf fP H5 F5;have pD:=HB;obtain ⟨m2,jo⟩:∃ m2:MSt,({ m with s:={ m.s with ws:=m.s.ws.set m.s.top (b:Int) } }:MSt)=m2:=⟨_,rfl⟩;have jb:m2.o=m.o:=by rw[<-jo]
     rw[<-jb]at pD;rw[jo]at hb H3;clear jo jb;unfold MSt.zcy at hb;split at hb
     ·cases hb
     ·next z hz=>
      obtain ⟨tH,bq,aP,pr⟩:=Sto.zaU hz;have ml:=zab (fun W:World=>za4 z W bq aP);have yp:(b:Int)<((m2).s.ws.length:Int):=by omega
      have HZ:=zab tH;clear hz tH bq aP pr;split at hb
      ·next dz=>
       obtain rfl:=zyU hb;rw[dz]at ml;clear hb dz;go_wp2_with fail
       go_loopg [33] ((m2).o.fuel+1) (fun gk _ wr=>∃ q:MSt,MAt wr mb wb fv q/\q.s=(m2).s/\q.o.fuel+1=gk/\Fr (MB mb wb fv) w wr)
       case atStart=>exact ⟨m2,H3.o,rfl,rfl,F3.o⟩
       case round=>
        obtain ⟨q,hq,hs,hg,ak⟩:=hrel;have c0:=hq.sat.c0;rw[hs]at c0;have cz:=hq.sat.word (by rw[hs];exact HZ.o);have HQ:=zab hq;have HS:=zab hs;have HG:=zab hg;have cY:=zab ak;clear hq hs hg ak;go_wp2_with fail
        refine (ml.o _).mono ?_;rintro e w5 ⟨rfl,dK⟩;subst w5;clear c0 cz;go_wp2_with fail
        refine (zl7 HQ.o).mono ?_;unfold MSt.zsJ;split
        ·rintro e w6 ⟨f6,rfl,h6⟩;exact ⟨rfl,cY.o.trans f6,rfl,h6⟩
        ·next aH=>
         have uf:=zab aH;clear aH;rintro e w6 ⟨f6,rfl,h6⟩;have H6:=zab h6;have F6:=zab (cY.o.trans f6);clear f6 h6;go_wp2_with fail
         go_roundg (gk-1)
         case measure=>have:=HG.o;omega
         case rel=>exact ⟨_,H6.o,HS.o,by have:=HG.o;have:=uf.o;simp only;omega,F6.o⟩
      ·next dz=>
       have lj:(z%16 == 3)=false:=by rw[beq_eq_false_iff_ne];exact dz
       generalize z%16=kz at ml lj dz;split at hb
       ·cases hb
       ·next l hl=>
        have CL:=zab (fun (W:World) (hW:MAt W mb wb fv (m2)) (rM:BAt W mb wb fv (m2).o.pb sl)=>zjp hW rM hl);clear hl;go_wp2_with fail
        go_loopg [33] 1 (fun _ _ wr=>MAt wr mb wb fv (m2)/\Fr (MB mb wb fv) w wr)
        case atStart=>exact ⟨H3.o,F3.o⟩
        case round=>
         obtain ⟨hq,ak⟩:=hrel;have c0:=hq.sat.c0;have cz:=hq.sat.word HZ.o;have HQ:=zab hq;have cY:=zab ak;clear hq ak;go_wp2_with fail
         refine (ml.o _).mono ?_;rintro e w5 ⟨rfl,dK⟩;subst w5;clear c0 cz;go_wp2_with fail
         refine (CL.o _ HQ.o (pD.o.fr cY.o)).mono ?_;rintro e w6 ⟨rfl,k6,oe⟩;have H6:Hid (MAt w6 mb wb fv (m2)):=zab (by rw[oe];exact HQ.o.drewN k6);have F6:Hid (Fr (MB mb wb fv) w w6):=zab (by rw[oe];exact cY.o.drewN k6);clear oe;split at hb
         ·next da=>
          subst da;have CB:=zab (zns H6.o hb);clear hb;go_wp2_with fail
          refine CB.o.mono ?_;cases r with
          |error j=>
           rintro e w7 ⟨f7,rfl,h7⟩;exact ⟨rfl,F6.o.trans f7,rfl,h7⟩
          |ok m'=>
           rintro e w7 ⟨f7,rfl,h7⟩;have H7:=zab h7;have F7:=zab (F6.o.trans f7);clear f7 h7;go_wp2_with fail
           first|go_end0|refine bodyPost_ret (results_none rfl _ _ _) rfl ?_
           exact ⟨F7.o,rfl,H7.o⟩
         ·next da=>
          have xG:(l == 0)=false:=by rw[beq_eq_false_iff_ne];exact da
          have CB:=zab (zlq H6.o (pD.o.fr F6.o) hb);clear hb;go_wp2_with fail
          refine CB.o.mono ?_;cases r with
          |error j=>
           rintro e w7 ⟨f7,rfl,h7⟩;exact ⟨rfl,F6.o.trans f7,rfl,h7⟩
          |ok m'=>
           rintro e w7 ⟨f7,rfl,h7⟩;have H7:=zab h7;have F7:=zab (F6.o.trans f7);clear f7 h7;go_wp2_with fail
           first|go_end0|refine bodyPost_ret (results_none rfl _ _ _) rfl ?_
           exact ⟨F7.o,rfl,H7.o⟩
  ·next hk=>
   have kj:(y%16 == 4)=false:=by rw[beq_eq_false_iff_ne];exact hk
   generalize y%16=ky at CK kj hk;clear h hB ha hx hh hy aU aT bE hk;go_enter func77,ntmps77
   go_wp2_with fail
   refine CA.o.mono ?_;rintro e w1 ⟨rfl,k1,aD⟩;have H1:Hid (MAt w1 mb wb fv m):=zab (by rw[aD];exact HH.o.drewN k1);have F1:Hid (Fr (MB mb wb fv) w w1):=zab (by rw[aD];exact (Fr.refl _ _).drewN k1);clear aD;have c0:=H1.o.sat.c0;have cy:=H1.o.sat.word HY.o;go_wp2_with fail
   refine (CK.o _).mono ?_;rintro e w2 ⟨rfl,aB⟩;subst w2;clear c0 cy;have pD:=HB;have H3:=H1;have F3:=F1;unfold MSt.zcy at hb;split at hb
   ·cases hb
   ·next z hz=>
    obtain ⟨tH,bq,aP,pr⟩:=Sto.zaU hz;have ml:=zab (fun W:World=>za4 z W bq aP);have yp:(a:Int)<((m).s.ws.length:Int):=by omega
    have HZ:=zab tH;clear hz tH bq aP pr;split at hb
    ·next dz=>
     obtain rfl:=zyU hb;rw[dz]at ml;clear hb dz;go_wp2_with fail
     go_loopg [33] ((m).o.fuel+1) (fun gk _ wr=>∃ q:MSt,MAt wr mb wb fv q/\q.s=(m).s/\q.o.fuel+1=gk/\Fr (MB mb wb fv) w wr)
     case atStart=>exact ⟨m,H3.o,rfl,rfl,F3.o⟩
     case round=>
      obtain ⟨q,hq,hs,hg,ak⟩:=hrel;have c0:=hq.sat.c0;rw[hs]at c0;have cz:=hq.sat.word (by rw[hs];exact HZ.o);have HQ:=zab hq;have HS:=zab hs;have HG:=zab hg;have cY:=zab ak;clear hq hs hg ak;go_wp2_with fail
      refine (ml.o _).mono ?_;rintro e w5 ⟨rfl,dK⟩;subst w5;clear c0 cz;go_wp2_with fail
      refine (zl7 HQ.o).mono ?_;unfold MSt.zsJ;split
      ·rintro e w6 ⟨f6,rfl,h6⟩;exact ⟨rfl,cY.o.trans f6,rfl,h6⟩
      ·next aH=>
       have uf:=zab aH;clear aH;rintro e w6 ⟨f6,rfl,h6⟩;have H6:=zab h6;have F6:=zab (cY.o.trans f6);clear f6 h6;go_wp2_with fail
       go_roundg (gk-1)
       case measure=>have:=HG.o;omega
       case rel=>exact ⟨_,H6.o,HS.o,by have:=HG.o;have:=uf.o;simp only;omega,F6.o⟩
    ·next dz=>
     have lj:(z%16 == 3)=false:=by rw[beq_eq_false_iff_ne];exact dz
     generalize z%16=kz at ml lj dz;split at hb
     ·cases hb
     ·next l hl=>
      have CL:=zab (fun (W:World) (hW:MAt W mb wb fv (m)) (rM:BAt W mb wb fv (m).o.pb sl)=>zjp hW rM hl);clear hl;go_wp2_with fail
      go_loopg [33] 1 (fun _ _ wr=>MAt wr mb wb fv (m)/\Fr (MB mb wb fv) w wr)
      case atStart=>exact ⟨H3.o,F3.o⟩
      case round=>
       obtain ⟨hq,ak⟩:=hrel;have c0:=hq.sat.c0;have cz:=hq.sat.word HZ.o;have HQ:=zab hq;have cY:=zab ak;clear hq ak;go_wp2_with fail
       refine (ml.o _).mono ?_;rintro e w5 ⟨rfl,dK⟩;subst w5;clear c0 cz;go_wp2_with fail
       refine (CL.o _ HQ.o (pD.o.fr cY.o)).mono ?_;rintro e w6 ⟨rfl,k6,oe⟩;have H6:Hid (MAt w6 mb wb fv (m)):=zab (by rw[oe];exact HQ.o.drewN k6);have F6:Hid (Fr (MB mb wb fv) w w6):=zab (by rw[oe];exact cY.o.drewN k6);clear oe;split at hb
       ·next da=>
        subst da;have CB:=zab (zns H6.o hb);clear hb;go_wp2_with fail
        refine CB.o.mono ?_;cases r with
        |error j=>
         rintro e w7 ⟨f7,rfl,h7⟩;exact ⟨rfl,F6.o.trans f7,rfl,h7⟩
        |ok m'=>
         rintro e w7 ⟨f7,rfl,h7⟩;have H7:=zab h7;have F7:=zab (F6.o.trans f7);clear f7 h7;go_wp2_with fail
         first|go_end0|refine bodyPost_ret (results_none rfl _ _ _) rfl ?_
         exact ⟨F7.o,rfl,H7.o⟩
       ·next da=>
        have xG:(l == 0)=false:=by rw[beq_eq_false_iff_ne];exact da
        have CB:=zab (zlq H6.o (pD.o.fr F6.o) hb);clear hb;go_wp2_with fail
        refine CB.o.mono ?_;cases r with
        |error j=>
         rintro e w7 ⟨f7,rfl,h7⟩;exact ⟨rfl,F6.o.trans f7,rfl,h7⟩
        |ok m'=>
         rintro e w7 ⟨f7,rfl,h7⟩;have H7:=zab h7;have F7:=zab (F6.o.trans f7);clear f7 h7;go_wp2_with fail
         first|go_end0|refine bodyPost_ret (results_none rfl _ _ _) rfl ?_
         exact ⟨F7.o,rfl,H7.o⟩
end Go.Proofs.YtgahgkddaljmkaaGreatDoor
