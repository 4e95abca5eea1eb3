/- Mach24 .. Mach27 -/
import Derived.Test.YtgahgkddaljmkaaGreatDoorV5
import Derived.Test.YtgahgkddaljmkaaGreatDoorV1
set_option maxRecDepth 100000
set_option maxHeartbeats 4000000
namespace Go.Proofs.YtgahgkddaljmkaaGreatDoor
open Go.RowKit
attribute [local go_sem ↓] Go.wp_at_zero Go.wp_at_succ
def MSt.extended (m:MSt) (has c:Nat):Option MSt:=
 match m.s.nodeAt 0 with
 |none=>none
 |some (a,y)=>if has+c<4096/\y/65536<=1000000000/\a+1+cnt y<=m.s.ws.length/\(m.s.free<a+1\/a+1+cnt y<=m.s.free)/\1<=c then
   match m.s.node (Hd 2 (y/65536).toNat (has+c)) (m.s.words (a+1) (cnt y)) with
   |none=>none
   |some s2=>if s2.ws[a]?=some y/\s2.ws.length=m.s.ws.length/\s2.top+2+c<=s2.ws.length/\s2.free+c<=s2.ws.length then
     (Sto.pop { s2 with ws:=Go.splice s2.ws s2.free (s2.words (s2.top+2) c),free:=s2.free+c } (2+c)).bind fun s4=>(s4.push m.s.free).map fun s5=>{ m with s:=s5 }
    else none
  else none
def MSt.extend (m:MSt) (c:Nat):Option (Except Nat MSt):=
 match m.s.nodeAt 0 with
 |none=>none
 |some (_,y)=>aft (m.zdC (1+cnt y+c)) fun m1=>(m1.extended (cnt y) c).map .ok
variable {wb c:Nat}
theorem zuI{tp R:Nat}(hR:R≠0):∀ W:World,(Instr.slice 76 (.slice (some ⟨wb,tp,none⟩) (2+c) (R+2)) (some (.int .i64 2)) none none).run Tryz.prog W=.ok (.slice (some ⟨wb,tp+2,none⟩) c R) W:=by
 intro W;rw[run_slice_l W 76 _ _ _ Tryz.underlying76 .i64 2 (by omega) (by omega)];have e3:Tryz.prog.elem 76=2:=by kernel_rfl
 rw[e3,Tryz.sizeOf2];have e4:((2:Int)).toNat=2:=rfl;simp only[Result.andThen,sliced,e4,zzn,zyL,zbb];rw[if_neg (by omega),show 2+c-2=c by omega,show R+2-2=R by omega]
variable {w:World}
variable {mb:Nat}
variable {fv:Value}
variable {m m':MSt}
variable {a:Nat}
theorem zsC{m1:MSt}{y:Int}(h:MAt w mb wb fv m)(ha:m.s.nodeAt 0=some (a,y))(hn:m.zdC (1+cnt y+c)=some (.ok m1))(he:m1.extended (cnt y) c=some m'):
  Calls Tryz.prog 255 #[.pointer (some ⟨mb,0,none⟩),.int .i64 c] w fun e w'=>Ends w mb wb fv (.ok m') e w':=by
 obtain ⟨hx,hh⟩:=Sto.zaO ha;obtain ⟨hy,hy0,hy1,hal⟩:=Sto.zaT hh;unfold MSt.extended at he;split at he
 ·cases he
 ·next a1 y1 ha1=>
  split at he
  ·next hg=>
   split at he
   ·cases he
   ·next s2 hnode=>
    obtain ⟨ws,hf,lo,fr,tp⟩:=s2;simp only at he;split at he
    ·next hg2=>
     simp only[zxM,zxT]at he;obtain ⟨s4,hpop,s5,hpush,rfl⟩:=he;obtain ⟨hx1,hh1⟩:=Sto.zaO ha1;obtain ⟨hz,hz0,hz1,hal1⟩:=Sto.zaT hh1;have c0:=h.sat.c0;have cy:=h.sat.word hy;have hal':(a:Int)<(m.s.ws.length:Int):=by omega
     have CC:=zab (fun W:World=>za3 y W hy0 hy1);rw[zif hy0]at CC;have hcl:=zfY y;have CA:=zab (fun n:Nat=>zaz (d:=0) (h.drewN n).sat _ hx);have HH:=zab h;have CN:=zab (fun (W:World) (hW:MAt W mb wb fv m)=>zaV hW hn);simp only[zym,zyF]at CN;have CW:=zab (fun W:World=>zbu y1 W hz0 hz1);obtain ⟨b,hb⟩:∃ b:Nat,y1/65536=b:=⟨(y1/65536).toNat,by omega⟩;rw[hb]at CW hg;rw[hb,zxY]at hnode;have CH:=zab (fun W:World=>zbt 2 b (cnt y+c) W (by omega) (by omega) (by omega));simp only[zym]at CH;obtain ⟨z,hzz⟩:∃ z,Hd 2 b (cnt y+c)=z:=⟨_,rfl⟩;rw[hzz]at CH hnode;obtain ⟨L,hL⟩:∃ L,m1.s.ws.length=L:=⟨_,rfl⟩;have hLb:L<=1000000:=by have:=(zl2 hn);have:=h.sat.len;omega
     have hwsL:ws.length=L:=by rw[<-hL];exact hg2.2.1
     obtain ⟨R,hR⟩:∃ R,L=tp+(R+2):=⟨L-tp-2,by omega⟩;have hcR:(c:Int)<=(R:Int):=by omega
     have hR0:R≠0:=by omega
     have hR1:(R:Int)<=1000000:=by omega
     have hfr:fr+c<=L:=by omega
     have hal1':(a1:Int)<(L:Int):=by omega
     have hxl:(Sto.words ⟨ws,hf,lo,fr,tp⟩ (tp+2) c).length=c:=Sto.zcJ (by simp only;omega);have hxg:∀ (j:Nat) x,(Sto.words ⟨ws,hf,lo,fr,tp⟩ (tp+2) c)[j]?=some x->ws[tp+2+j]?=some x:=fun j x hj=>(Sto.zdM hj).2
     generalize Sto.words ⟨ws,hf,lo,fr,tp⟩ (tp+2) c=xs at hxl hxg hpop;have HXG:=zab hxg;have HR:=zab hR;have HFX:=zab hfr;have HWSL:=zab hwsL;have HL:=zab hL;have HX1:=zab hx1;have HZ:=zab (And.intro hz (And.intro hz0 (And.intro hz1 hg.2.2.1)));have HND:=zab (And.intro hnode hg.2.2.2.1);have HG2:=zab hg2;have HPO:=zab hpop;have HPU:=zab hpush;have hc4:(c:Int)<4096:=by omega
     have hc1:=hg.2.2.2.2;generalize cnt y=k at *;have hk4:(k:Int)<4096:=by omega
     clear h ha hx hy hh hn hy0 hy1 hal ha1 hx1 hh1 hz hz0 hz1 hal1 hg hg2 hnode hpop hpush hb hzz hxg hwsL hL hR hfr;go_enter Tryz.func255,Tryz.ntmps255
     go_wp2_with fail
     go_quiet ((first|(go_at_call 82;exact Calls.quiet_of (CA.o _))|(go_at_call 85;exact Calls.quiet_of_same (CC.o _))))
     have H1:=zab (HH.o.drewN nq);have F1:Hid (Fr (MB mb wb fv) w (w.drewN nq)):=zab ((Fr.refl _ _).drewN nq);generalize w.drewN nq=w1 at H1 F1;clear c0 cy;go_wp2_with fail
     refine (CN.o _ H1.o).mono ?_;rintro e w2 ⟨f2,rfl,h2⟩;have H2:=zab h2;have F2:=zab (F1.o.trans f2);clear h2 f2 CN;go_wp2_with fail
     refine (zaz (d:=0) H2.o.sat _ HX1.o).mono ?_;rintro e w3 ⟨rfl,k3,hw3⟩;have H3:Hid (MAt w3 mb wb fv m1):=zab (by rw[hw3];exact H2.o.drewN k3);have F3:Hid (Fr (MB mb wb fv) w w3):=zab (by rw[hw3];exact F2.o.drewN k3);clear hw3;have c0:=H3.o.sat.c0;rw[HL.o]at c0;have cy:=H3.o.sat.word HZ.o.1;have hwr:IntKind.i64.wrap ((k:Int)+(c:Int))=(k:Int)+(c:Int):=zba _ (by omega) (by omega);go_wp2_with fail
     go_region_held3 (fun W=>W.cell? ⟨mb,0,none⟩=some (.slice (some ⟨wb,0,none⟩) L L)/\W.cell? ⟨wb,a1,none⟩=some (.int .i64 y1)) (first|go_keep|(refine ⟨?_,?_⟩ <;> assumption)) (first
      |(go_at_call 84;refine (CW.o _).mono ?_;rintro e w4 ⟨rfl,hw4⟩;subst w4)
      |(go_at_call 75;refine (CH.o _).mono ?_;rintro e w4 ⟨rfl,hw4⟩;subst w4)
      |(go_at_call 135;refine (zcw H3.o.sat.drew a1 y1 HZ.o.1 HZ.o.2.1 HZ.o.2.2.1 HZ.o.2.2.2).mono ?_;rintro e w5 ⟨rfl,k5,hw5⟩;have H5:Hid (SAt w5 mb wb (zec m1.o fv) m1.s):=zab (by rw[hw5];exact H3.o.sat.drew.drewN k5);have F5:Hid (Fr (M2 mb wb) w3 w5):=zab (by rw[hw5];exact (Fr.refl _ _).drew.drewN k5);have e0:w5.cell? ⟨mb,0,none⟩=some (.slice (some ⟨wb,0,none⟩) L L):=(by rw[H5.o.c0,HL.o]);have ey:=H5.o.word HZ.o.1;clear hw5)
      |(go_at_call 74;refine (Sto.zqr H5.o HND.o.1 HND.o.2 HZ.o.2.2.2 (fun h0=>zbS (by have:=HZ.o.2.2.2;omega))).mono ?_;rintro e w6 ⟨rfl,h6,f6⟩;have H6:=zab h6;have F6:=zab (F5.o.trans f6);have g0:w6.cell? ⟨mb,0,none⟩=some (.slice (some ⟨wb,0,none⟩) L L):=(by rw[h6.c0];simp only;rw[HWSL.o]);have gy:=h6.word HG2.o.1;clear h6 f6))
     all_goals
      clear c0 cy e0 ey g0 gy;have hR:=HR.o;have hfr:=HFX.o;have c0:w6.cell? ⟨mb,0,none⟩=some (.slice (some ⟨wb,0,none⟩) L L):=by rw[H6.o.c0];simp only;rw[HWSL.o]
      have c3:w6.cell? ⟨mb,3,none⟩=some (.int .i64 fr):=H6.o.c3;have CS:=zab (ze9 H6.o.drew (2+c) (by simp only;rw[HWSL.o];omega));simp only[zym,zyF,HWSL.o,zbS (show tp<L by omega),show L-tp=R+2 by omega]at CS;have hb1:(fr:Int)<=(L:Int):=by omega
      have hb2:(0:Int)<=(fr:Int):=by omega
      have hlt:fr<L:=by omega
      have hne:¬ L=fr:=by omega
      have hwr2:IntKind.i64.wrap (2+(c:Int))=2+(c:Int):=zba _ (by omega) (by omega);have hfit:fr+xs.length<=ws.length:=by rw[HWSL.o];omega
      have HFIT:=zab hfit;have qsl:=zuI (wb:=wb) (tp:=tp) (c:=c) hR0;clear hR hfit;go_wp2_with fail
      go_region_held3 (fun W=>W.cell? ⟨mb,0,none⟩=some (.slice (some ⟨wb,0,none⟩) L L)/\W.cell? ⟨mb,3,none⟩=some (.int .i64 fr)) (first|go_keep|(refine ⟨?_,?_⟩ <;> assumption)) (first
       |(go_at_call 136;refine CS.o.mono ?_;rintro e w7 ⟨rfl,k7,hw7⟩;have H7:Hid (SAt w7 mb wb (zec m1.o fv) ⟨ws,hf,lo,fr,tp⟩):=zab (by rw[hw7];exact H6.o.drew.drewN k7);have F7:Hid (Fr (M2 mb wb) w3 w7):=zab (by rw[hw7];exact F6.o.drew.drewN k7);have d0:w7.cell? ⟨mb,0,none⟩=some (.slice (some ⟨wb,0,none⟩) L L):=(by rw[H7.o.c0];simp only;rw[HWSL.o]);have d3:w7.cell? ⟨mb,3,none⟩=some (.int .i64 fr):=H7.o.c3;clear hw7)
       |(refine za5 (by rfl) _ _ (by rfl) H7.o fr _ _ _ _ _ (by rfl) (by rfl) xs (by rw[hxl];exact (zyO (by omega)).symm) (fun h0=>⟨_,rfl,fun j x hj=>by rw[zbb];exact H7.o.word (HXG.o j x hj)⟩) HFIT.o ?_;intro w8 h8 f8;have H8:=zab h8;have F8:=zab (F7.o.trans f8);have e0:w8.cell? ⟨mb,0,none⟩=some (.slice (some ⟨wb,0,none⟩) L L):=(by rw[h8.c0];simp only;rw[zaX _ _ _ HFIT.o,HWSL.o]);have e3:w8.cell? ⟨mb,3,none⟩=some (.int .i64 fr):=h8.c3;clear h8 f8))
      all_goals
       clear c0 c3 d0 d3 e0 e3 qsl hne hlt hb1 hb2;have c3:w8.cell? ⟨mb,3,none⟩=some (.int .i64 fr):=H8.o.c3;have cf:=H8.o.blk.frozen 3;have hfr:=HFX.o;have hwr3:IntKind.i64.wrap ((fr:Int)+(c:Int))=(fr:Int)+(c:Int):=zba _ (by omega) (by omega);have H9:=zab (H8.o.zke (fr+c) (by omega));have F9:Hid (Fr (M2 mb wb) w3 (w8.setCell ⟨mb,3,none⟩ (.int .i64 ((fr+c:Nat):Int)))):=zab (F8.o.set _ _ (.inl (.inl rfl)));have CPO:=zab (fun (W:World) (hW:SAt W mb wb (zec m1.o fv) _)=>Sto.zbK hW HPO.o);simp only[zym,zyF]at CPO H9 F9;clear hfr;go_wp2_with fail
       generalize w8.setCell ⟨mb,3,none⟩ (.int .i64 ((fr:Int)+(c:Int)))=w9 at H9 F9 ⊢;clear c3 cf;go_wp2_with fail
       refine (CPO.o _ H9.o).mono ?_;rintro e w10 ⟨rfl,h10,f10⟩;have H10:=zab h10;have F10:=zab (F9.o.trans f10);clear h10 f10;go_wp2_with fail
       refine (Sto.zb3 H10.o HPU.o).mono ?_;rintro e w11 ⟨rfl,h11,f11⟩;have H11:=zab h11;have F11:=zab (F10.o.trans f11);clear h11 f11;go_wp2_with fail
       first|go_end0|refine bodyPost_ret (results_none rfl _ _ _) rfl ?_
       exact ⟨F3.o.trans (F11.o.zcW fv),rfl,H3.o.fr2 H11.o F11.o⟩
    ·cases he
  ·cases he
theorem zrA{k:Nat}{y:Int}(h:MAt w mb wb fv m)(hcb:c<=1000000)(ha:m.s.nodeAt 0=some (a,y))(hn:m.zdC (1+cnt y+c)=some (.error k)):
  Calls Tryz.prog 255 #[.pointer (some ⟨mb,0,none⟩),.int .i64 c] w fun e w'=>Ends w mb wb fv (.error k) e w':=by
 obtain ⟨hx,hh⟩:=Sto.zaO ha;obtain ⟨hy,hy0,hy1,hal⟩:=Sto.zaT hh;have c0:=h.sat.c0;have cy:=h.sat.word hy;have hal':(a:Int)<(m.s.ws.length:Int):=by omega
 have CC:=zab (fun W:World=>za3 y W hy0 hy1);rw[zif hy0]at CC;have hcl:=zfY y;have CA:=zab (fun n:Nat=>zaz (d:=0) (h.drewN n).sat _ hx);have HH:=zab h;have CN:=zab (fun (W:World) (hW:MAt W mb wb fv m)=>zaV hW hn);simp only[zym,zyF]at CN;generalize cnt y=k at *;have hk4:(k:Int)<4096:=by omega
 have hc4:(c:Int)<=1000000:=by omega
 clear h ha hx hy hh hn hy0 hy1 hal hcb;go_enter Tryz.func255,Tryz.ntmps255
 go_wp2_with fail
 go_quiet ((first|(go_at_call 82;exact Calls.quiet_of (CA.o _))|(go_at_call 85;exact Calls.quiet_of_same (CC.o _))))
 have H1:=zab (HH.o.drewN nq);have F1:Hid (Fr (MB mb wb fv) w (w.drewN nq)):=zab ((Fr.refl _ _).drewN nq);generalize w.drewN nq=w1 at H1 F1;clear c0 cy;go_wp2_with fail
 refine (CN.o _ H1.o).mono ?_;rintro e w2 ⟨f2,rfl,h2⟩;exact ⟨rfl,F1.o.trans f2,rfl,h2⟩
variable {r:Except Nat MSt}
theorem zrv(h:MAt w mb wb fv m)(hcb:c<=1000000)(hb:m.extend c=some r):
  Calls Tryz.prog 255 #[.pointer (some ⟨mb,0,none⟩),.int .i64 c] w fun e w'=>Ends w mb wb fv r e w':=by
 unfold MSt.extend at hb;split at hb
 ·cases hb
 ·next a y ha=>
  unfold aft at hb;split at hb
  ·cases hb
  ·next k hn=>obtain rfl:=zxQ hb;exact zrA h hcb ha hn
  ·next m1 hn=>
   simp only[zxT]at hb;obtain ⟨m2,h2,rfl⟩:=hb;exact zsC h ha hn h2
theorem zqE(h:m.zdC c=some (.ok m')):m'.o=m.o:=by
 unfold MSt.zdC at h;split at h
 ·cases h;rfl
 ·split at h
  ·cases h
  ·split at h
   ·cases h
   ·cases h;rfl
theorem zqo(h:m.extend c=some (.ok m')):m'.o=m.o:=by
 unfold MSt.extend at h;split at h
 ·cases h
 ·unfold aft at h;split at h
  ·cases h
  ·cases h
  ·next m1 hn=>
   simp only[zxT]at h;obtain ⟨m2,h2,h3⟩:=h;cases h3;rw[<-zqE hn];unfold MSt.extended at h2;split at h2
   ·cases h2
   ·split at h2
    ·split at h2
     ·cases h2
     ·split at h2
      ·simp only[zxM,zxT]at h2;obtain ⟨s4,_,s5,_,rfl⟩:=h2;rfl
      ·cases h2
    ·cases h2
def EndsB (w:World) (mb wb:Nat) (fv:Value) (r:Except Nat (Bool × MSt)) (e:Ending) (w':World):Prop:=
 Fr (MB mb wb fv) w w'/\match r with
 |.ok q=>e=.returned (.bool q.1)/\MAt w' mb wb fv q.2
 |.error k=>e=up k/\∃ m',MAt w' mb wb fv m'
def MSt.za4 (m:MSt) (sl:List Nat) (c:Nat):Option (Except Nat (Bool × MSt)):=
 match m.s.nodeAt 0 with
 |none=>none
 |some (a,_)=>
  match m.s.zfL sl a with
  |none=>none
  |some l=>if l<0 then some (.error 3) else
   if (c:Int)<l then (match m.extend c with|none=>none|some (.error k)=>some (.error k)|some (.ok m')=>some (.ok (false,m')))
   else if 2000000<c then none
   else (match m.call l.toNat (c-l.toNat) with|none=>none|some (.error k)=>some (.error k)|some (.ok m')=>some (.ok (true,m')))
variable {sl:List Nat}
theorem zum{pv:Value}(hB:BAt w mb wb fv pv sl){s:Sto}{l:Int}(hl:s.zfL sl a=some l):l<=1000000:=by
 obtain ⟨_,_,_,_,_,h4⟩:=hB;unfold Sto.zfL at hl;split at hl
 ·cases hl
 ·split at hl
  ·cases hl
  ·split at hl
   ·split at hl
    ·cases hl
    ·next n hn=>
     obtain rfl:=zxQ hl;have:=(h4 _ n hn).1;omega
   ·obtain rfl:=zxQ hl;omega
theorem zs6{r:Except Nat (Bool × MSt)}(h:MAt w mb wb fv m)(hB:BAt w mb wb fv m.o.pb sl)(hb:m.za4 sl c=some r)(hcb:c<=1000000000):
  Calls Tryz.prog 205 #[.pointer (some ⟨mb,0,none⟩),.int .i64 c] w fun e w'=>EndsB w mb wb fv r e w':=by
 unfold MSt.za4 at hb;split at hb
 ·cases hb
 ·next a y ha=>
  obtain ⟨hx,hh⟩:=Sto.zaO ha;split at hb
  ·cases hb
  ·next l hl=>
   have CA:=zab (zaz (d:=0) h.sat _ hx);have CL:=zab (fun (W:World) (hW:MAt W mb wb fv m) (hW2:BAt W mb wb fv m.o.pb sl)=>zi9 hW hW2 hl);have HH:=zab h;have HB:=zab hB;have hlb:l<=1000000:=zum hB hl;split at hb
   ·next hneg=>
    obtain rfl:=zxQ hb;clear h hB ha hx hh hl;go_enter Tryz.func205,Tryz.ntmps205
    go_wp2_with fail
    refine CA.o.mono ?_;rintro e w1 ⟨rfl,k1,hw1⟩;have H1:Hid (MAt w1 mb wb fv m):=zab (by rw[hw1];exact HH.o.drewN k1);have F1:Hid (Fr (MB mb wb fv) w w1):=zab (by rw[hw1];exact (Fr.refl _ _).drewN k1);clear hw1;go_wp2_with fail
    refine (CL.o _ H1.o (HB.o.fr F1.o)).mono ?_;rintro e w2 ⟨rfl,k2,hw2⟩;have H2:Hid (MAt w2 mb wb fv m):=zab (by rw[hw2];exact H1.o.drewN k2);have F2:Hid (Fr (MB mb wb fv) w w2):=zab (by rw[hw2];exact F1.o.drewN k2);clear hw2;go_wp2_with fail
    refine (zb9 3 _).mono ?_;rintro e w4 ⟨rfl,hw4⟩;subst w4;exact ⟨rfl,F2.o,rfl,_,H2.o⟩
   ·next hneg=>
    obtain ⟨n,rfl⟩:∃ n:Nat,l=n:=⟨l.toNat,by omega⟩;rw[zxY]at hb;split at hb
    ·next hlt=>
     have hcb1:c<=1000000:=by omega
     obtain ⟨q,hq⟩:∃ q,m.extend c=some q:=by
      cases hq:m.extend c with
      |none=>rw[hq]at hb;cases hb
      |some q=>exact ⟨q,rfl⟩
     rw[hq]at hb;have CE:=zab (fun (W:World) (hW:MAt W mb wb fv m)=>zrv hW hcb1 hq);clear h hB ha hx hh hl hneg;have hn0:¬ (n:Int)<0:=by omega
     go_enter Tryz.func205,Tryz.ntmps205
     go_wp2_with fail
     refine CA.o.mono ?_;rintro e w1 ⟨rfl,k1,hw1⟩;have H1:Hid (MAt w1 mb wb fv m):=zab (by rw[hw1];exact HH.o.drewN k1);have F1:Hid (Fr (MB mb wb fv) w w1):=zab (by rw[hw1];exact (Fr.refl _ _).drewN k1);clear hw1;go_wp2_with fail
     refine (CL.o _ H1.o (HB.o.fr F1.o)).mono ?_;rintro e w2 ⟨rfl,k2,hw2⟩;have H2:Hid (MAt w2 mb wb fv m):=zab (by rw[hw2];exact H1.o.drewN k2);have F2:Hid (Fr (MB mb wb fv) w w2):=zab (by rw[hw2];exact F1.o.drewN k2);clear hw2;go_wp2_with fail
     refine (CE.o _ H2.o).mono ?_;cases q with
     |error k=>
      obtain rfl:=zxQ hb;rintro e w3 ⟨f3,rfl,h3⟩;exact ⟨rfl,F2.o.trans f3,rfl,h3⟩
     |ok m'=>
      obtain rfl:=zxQ hb;rintro e w3 ⟨f3,rfl,h3⟩;have F3:=zab (F2.o.trans f3);have H3:=zab h3;clear f3 h3 hb;go_wp2_with fail
      go_ret
      exact ⟨F3.o,rfl,H3.o⟩
    ·next hlt=>
     split at hb
     ·cases hb
     ·next hbig=>
      obtain ⟨q,hq⟩:∃ q,m.call n (c-n)=some q:=by
       cases hq:m.call n (c-n) with
       |none=>rw[hq]at hb;cases hb
       |some q=>exact ⟨q,rfl⟩
      rw[hq]at hb;obtain ⟨d,hd⟩:∃ d,c-n=d:=⟨_,rfl⟩;rw[hd]at hq;have hsub:IntKind.i64.wrap ((c:Int)-(n:Int))=(d:Int):=by rw[zba _ (by omega) (by omega)];omega
      have CE:=zab (fun (W:World) (hW:MAt W mb wb fv m)=>zvg hW hq);clear h hB ha hx hh hl hneg;have hn0:¬ (n:Int)<0:=by omega
      clear hd;go_enter Tryz.func205,Tryz.ntmps205
      go_wp2_with fail
      refine CA.o.mono ?_;rintro e w1 ⟨rfl,k1,hw1⟩;have H1:Hid (MAt w1 mb wb fv m):=zab (by rw[hw1];exact HH.o.drewN k1);have F1:Hid (Fr (MB mb wb fv) w w1):=zab (by rw[hw1];exact (Fr.refl _ _).drewN k1);clear hw1;go_wp2_with fail
      refine (CL.o _ H1.o (HB.o.fr F1.o)).mono ?_;rintro e w2 ⟨rfl,k2,hw2⟩;have H2:Hid (MAt w2 mb wb fv m):=zab (by rw[hw2];exact H1.o.drewN k2);have F2:Hid (Fr (MB mb wb fv) w w2):=zab (by rw[hw2];exact F1.o.drewN k2);clear hw2;go_wp2_with fail
      refine (CE.o _ H2.o).mono ?_;cases q with
      |error k=>
       obtain rfl:=zxQ hb;rintro e w3 ⟨f3,rfl,h3⟩;exact ⟨rfl,F2.o.trans f3,rfl,h3⟩
      |ok m'=>
       obtain rfl:=zxQ hb;rintro e w3 ⟨f3,rfl,h3⟩;have F3:=zab (F2.o.trans f3);have H3:=zab h3;clear f3 h3 hb;go_wp2_with fail
       go_ret
       exact ⟨F3.o,rfl,H3.o⟩
def waits (x:Int):Option (Nat × Nat):=if -4000000000<=x/\x<0 then some (((-x-1)%4).toNat,((-x-1)/4).toNat) else none
theorem zt7{x:Int}{k:Nat}(h:waits x=some (k,a)):x=Mk k a/\k<4/\a<=1000000000:=by
 unfold waits at h;split at h
 ·simp only[zxL,zyH]at h;obtain ⟨rfl,rfl⟩:=h;unfold Mk;omega
 ·cases h
def MSt.za1 (sl:List Nat):Nat->MSt->Option (Except Nat MSt)
 |0,_=>none
 |g+1,m=>
  if m.s.low+m.s.half<=m.s.top+1 then some (.ok { m with o:={ m.o with next:=-1 } }) else
  match m.s.ws[m.s.top+1]? with
  |none=>none
  |some x=>
   match waits x with
   |none=>none
   |some (k,a)=>
    if k=0 then (match m.s.update with|none=>none|some s'=>MSt.za1 sl g { m with s:=s' })
    else if k=1 then (match m.s.ws[m.s.top]? with
     |none=>none
     |some v=>(Sto.pop { m.s with ws:=m.s.ws.set (m.s.top+1) v } 1).map fun s'=>.ok { m with s:=s',o:={ m.o with next:=a } })
    else if k=2 then (match m.za4 sl a with
     |none=>none
     |some (.error j)=>some (.error j)
     |some (.ok q)=>if q.1=true then some (.ok q.2) else MSt.za1 sl g q.2)
    else none
theorem zrY(h:m.za4 sl c=some (.ok (false,m'))):m'.o=m.o:=by
 unfold MSt.za4 at h;split at h
 ·cases h
 ·split at h
  ·cases h
  ·split at h
   ·cases h
   ·split at h
    ·split at h
     ·cases h
     ·cases h
     ·next hx=>cases h;exact zqo hx
    ·split at h
     ·cases h
     ·split at h
      ·cases h
      ·cases h
      ·cases h
theorem ztd{tp:Nat}:∀ (W:World) (v:Value),(W.setCell ⟨wb,tp+1,none⟩ v).cell? ⟨wb,tp,none⟩=W.cell? ⟨wb,tp,none⟩:=
 fun W v=>by apply World.cell?_setCell_other;simp
theorem zlg{g:Nat}(h:MAt w mb wb fv m)(hB:BAt w mb wb fv m.o.pb sl)(hb:MSt.za1 sl g m=some r):
  Calls Tryz.prog 129 #[.pointer (some ⟨mb,0,none⟩)] w fun e w'=>Ends w mb wb fv r e w':=by
 have HH:=zab h;have HB:=zab hB;have HR:=zab hb;clear h hB hb;go_enter Tryz.func129,Tryz.ntmps129
 go_wp2_with fail
 go_loopg [2] g (fun gk _ wr=>∃ q:MSt,MAt wr mb wb fv q/\q.o.pb=m.o.pb/\MSt.za1 sl gk q=some r/\Fr (MB mb wb fv) w wr)
 case atStart=>exact ⟨m,HH.o,rfl,HR.o,Fr.refl _ _⟩
 case round=>
  obtain ⟨q,hq,hpb,hg,hfr⟩:=hrel;cases gk with
  |zero=>cases hg
  |succ k=>
   obtain ⟨⟨ws,hf,lo,fr,tp⟩,o,fns⟩:=q;rw[MSt.za1]at hg;simp only at hg hpb;have hlen:ws.length<=1000000:=hq.sat.len;have htb:tp<=1000000:=hq.sat.top;have hlb:lo<=1000000:=hq.sat.low;have hhb:hf<=1000000:=hq.sat.half;have c0:=hq.sat.c0;have c4:=hq.sat.c4;simp only at c0 c4;have CE:=zab (fun n:Nat=>zhP (hq.drewN n).sat);simp only[zym]at CE;have HQ:=zab hq;have HFR:=zab hfr;have HPB:=zab hpb;have hwr:IntKind.i64.wrap ((tp:Int)+1)=(tp:Int)+1:=zba _ (by omega) (by omega);clear hq hfr hpb;split at hg
   ·next hend=>
    have hend':¬ ((tp:Int)+1<(lo:Int)+(hf:Int)):=by omega
    obtain rfl:=zxQ hg;clear hg hend;go_wp2_with fail
    go_quiet ((go_at_call 78;exact Calls.quiet_of (CE.o _)))
    have H1:=zab (HQ.o.drewN nq);have F1:=zab (HFR.o.drewN nq);generalize wr.drewN nq=w1 at H1 F1;clear c0 c4;have d10:=H1.o.sat.c10;have df:=H1.o.sat.blk.frozen 10;go_wp2_with fail
    first|go_end0|refine bodyPost_ret (results_none rfl _ _ _) rfl ?_
    have f2:Fr (M2 mb wb) w1 (w1.setCell ⟨mb,10,none⟩ (.int .i64 (-1))):=(Fr.refl _ _).set _ _ (.inl (.inl rfl));exact ⟨F1.o.trans (f2.zcW fv),rfl,H1.o.sat.zgx (-1),H1.o.fat.fr f2,H1.o.fl,H1.o.fuel⟩
   ·next hend=>
    have hend':(tp:Int)+1<(lo:Int)+(hf:Int):=by omega
    split at hg
    ·cases hg
    ·next x hx=>
     split at hg
     ·cases hg
     ·next k1 a hw=>
      obtain ⟨rfl,hk4,ha9⟩:=zt7 hw;have hxl:=(zxH.1 hx).1;have CK:=zab (fun W:World=>zov k1 a W hk4 ha9);have CW:=zab (fun W:World=>zl3 k1 a W hk4 ha9);obtain ⟨z,hz⟩:∃ z,Mk k1 a=z:=⟨_,rfl⟩;rw[hz]at CK CW hx;have cx:wr.cell? ⟨wb,tp+1,none⟩=some (.int .i64 z):=HQ.o.sat.word hx;have hb1:(tp:Int)+1<(ws.length:Int):=by omega
      have hb0:(0:Int)<=(tp:Int)+1:=by omega
      have HX:=zab hx;clear hw hz hend hx;go_wp2_with fail
      go_quiet ((go_at_call 78;exact Calls.quiet_of (CE.o _)))
      have H1:=zab (HQ.o.drewN nq);have F1:=zab (HFR.o.drewN nq);generalize wr.drewN nq=w1 at H1 F1;clear c0 c4 cx;have c0:=H1.o.sat.c0;have c4:=H1.o.sat.c4;have cx:w1.cell? ⟨wb,tp+1,none⟩=some (.int .i64 z):=H1.o.sat.word HX.o;simp only at c0 c4;go_wp2_with fail
      go_quiet (fail)
      have H2:=zab (H1.o.drewN nq);have F2:=zab (F1.o.drewN nq);generalize w1.drewN nq=w2 at H2 F2;clear c0 c4 cx;go_wp2_with fail
      refine (CK.o _).mono ?_;rintro e w3 ⟨rfl,hw3⟩;subst w3;split at hg
      ·next hk=>
       subst hk;split at hg
       ·cases hg
       ·next s' hu=>
        have HU:=zab hu;have HG:=zab hg;clear hu hg;go_wp2_with fail
        refine (zrO H2.o.sat HU.o).mono ?_;rintro e w4 ⟨rfl,h4,f4⟩;have H4:=zab h4;have F4:=zab f4;clear h4 f4;go_wp2_with fail
        go_roundg k
        case measure=>omega
        case rel=>exact ⟨_,H2.o.fr2 H4.o F4.o,HPB.o,HG.o,F2.o.trans (F4.o.zcW fv)⟩
      ·next hk0=>
       split at hg
       ·next hk=>
        subst hk;split at hg
        ·cases hg
        ·next v hv=>
         simp only[zxT]at hg;obtain ⟨s',hpo,rfl⟩:=hg;have HPO:=zab hpo;have c0:=H2.o.sat.c0;have c4:=H2.o.sat.c4;have cv:w2.cell? ⟨wb,tp,none⟩=some (.int .i64 v):=H2.o.sat.word hv;have cx:w2.cell? ⟨wb,tp+1,none⟩=some (.int .i64 z):=H2.o.sat.word HX.o;have cf:=H2.o.sat.zey.frozen (tp+1);have hoth:=zcg H2.o.sat.ne;have hot2:=ztd (wb:=wb) (tp:=tp);have hvl:=(zxH.1 hv).1;have hb3:(tp:Int)<(ws.length:Int):=by omega
         simp only at c0 c4;clear hpo hv;go_wp2_with fail
         go_region_held3 (fun W=>W.cell? ⟨mb,0,none⟩=some (.slice (some ⟨wb,0,none⟩) ws.length ws.length)/\W.cell? ⟨mb,4,none⟩=some (.int .i64 tp)/\W.cell? ⟨wb,tp,none⟩=some (.int .i64 v)) (first|go_keep|(refine ⟨?_,?_,?_⟩ <;> first|assumption|(rw[hoth];assumption)|(rw[hot2];assumption))) (fail)
         all_goals
          have H5:=zab (H2.o.sat.zcB (tp+1) v).drew;have F5:Hid (Fr (M2 mb wb) w2 ((w2.setCell ⟨wb,tp+1,none⟩ (.int .i64 v)).drew)):=zab ((Fr.refl _ _).set _ _ (.inl (.inr rfl))).drew;generalize (w2.setCell ⟨wb,tp+1,none⟩ (.int .i64 v)).drew=w5 at H5 F5;clear c0 c4 cv cx cf hoth hot2;go_wp2_with fail
          refine (Sto.zbK H5.o HPO.o).mono ?_;rintro e w6 ⟨rfl,h6,f6⟩;have H6:=zab h6;have F6:=zab (F5.o.trans f6);clear h6 f6;go_wp2_with fail
          refine (CW.o _).mono ?_;rintro e w7 ⟨rfl,hw7⟩;subst w7;have d10:=H6.o.c10;have df:=H6.o.blk.frozen 10;go_wp2_with fail
          first|go_end0|refine bodyPost_ret (results_none rfl _ _ _) rfl ?_
          have f7:Fr (M2 mb wb) w2 (w6.setCell ⟨mb,10,none⟩ (.int .i64 a)):=F6.o.set _ _ (.inl (.inl rfl));exact ⟨F2.o.trans (f7.zcW fv),rfl,H6.o.zgx a,H2.o.fat.fr f7,H2.o.fl,H2.o.fuel⟩
       ·next hk1=>
        split at hg
        ·next hk=>
         subst hk;have hpb:=HPB.o;obtain ⟨d,hd⟩:∃ d,(⟨⟨ws,hf,lo,fr,tp⟩,o,fns⟩:MSt).za4 sl a=some d:=by
          cases hd:(⟨⟨ws,hf,lo,fr,tp⟩,o,fns⟩:MSt).za4 sl a with
          |none=>rw[hd]at hg;cases hg
          |some d=>exact ⟨d,rfl⟩
         rw[hd]at hg;have HB2:Hid (BAt w2 mb wb fv o.pb sl):=zab (by rw[hpb];exact HB.o.fr F2.o);have CP:=zab (zs6 H2.o HB2.o hd ha9);have HD:=zab hd;clear hd hpb;go_wp2_with fail
         refine (CW.o _).mono ?_;rintro e w3 ⟨rfl,hw3⟩;subst w3;go_wp2_with fail
         refine CP.o.mono ?_;cases d with
         |error j=>
          obtain rfl:=zxQ hg;rintro e w4 ⟨f4,rfl,h4⟩;exact ⟨rfl,F2.o.trans f4,rfl,h4⟩
         |ok q=>
          obtain ⟨b,m'⟩:=q;rintro e w4 ⟨f4,rfl,h4⟩;have F4:=zab (F2.o.trans f4);have H4:=zab h4;clear f4 h4;cases b with
          |true=>
           obtain rfl:=zxQ hg;go_wp2_with fail
           first|go_end0|refine bodyPost_ret (results_none rfl _ _ _) rfl ?_
           exact ⟨F4.o,rfl,H4.o⟩
          |false=>
           have HG:Hid (MSt.za1 sl k m'=some r):=zab (by simpa using hg);have HO:=zab (zrY HD.o);clear hg;go_wp2_with fail
           go_roundg k
           case measure=>omega
           case rel=>exact ⟨_,H4.o,by rw[HO.o];exact HPB.o,HG.o,F4.o⟩
        ·cases hg
def MSt.ztx (m:MSt):Nat:=m.s.low+m.s.half+1-m.s.top
def MSt.zcy (m:MSt) (sl:List Nat) (a:Nat):Option (Except Nat MSt):=
 match m.s.head a with
 |none=>none
 |some y=>if y%16=3 then some (.error 5) else
  match m.s.zfL sl a with
  |none=>none
  |some l=>if l=0 then m.zdw else MSt.za1 sl m.ztx m
def MSt.enter (m:MSt) (sl:List Nat):Option (Except Nat MSt):=
 match m.s.nodeAt 0 with
 |none=>none
 |some (a,y)=>if y%16=4 then (if m.s.ws.length<m.s.top then none else MSt.zcy { m with s:={ m.s with ws:=m.s.ws.set m.s.top (y/65536) } } sl (y/65536).toNat) else m.zcy sl a
theorem znY(h:MAt w mb wb fv m)(hB:BAt w mb wb fv m.o.pb sl)(hb:m.enter sl=some r):
  Calls Tryz.prog 77 #[.pointer (some ⟨mb,0,none⟩)] w fun e w'=>Ends w mb wb fv r e w':=by
 unfold MSt.enter at hb;split at hb
 ·cases hb
 ·next a y ha=>
  obtain ⟨hx,hh⟩:=Sto.zaO ha;obtain ⟨hy,hy0,hy1,hal⟩:=Sto.zaT hh;have CA:=zab (zaz (d:=0) h.sat _ hx);have CK:=zab (fun W:World=>za2 y W hy0 hy1);have HH:=zab h;have HB:=zab hB;have HY:=zab hy;have hal':(a:Int)<(m.s.ws.length:Int):=by omega
  have hlen:m.s.ws.length<=1000000:=h.sat.len;split at hb
  ·next hk=>
   split at hb
   ·cases hb
   ·next hlt=>
    have CW:=zab (fun W:World=>zbu y W hy0 hy1);rw[hk]at CK;obtain ⟨b,hbb⟩:∃ b:Nat,y/65536=b:=⟨(y/65536).toNat,by omega⟩;rw[hbb]at CW hb;rw[zxY]at hb;have htl:=(zxH.1 hx).1;have htl1:(m.s.top:Int)<(m.s.ws.length:Int):=by omega
    have HXT:Hid (m.s.ws[m.s.top]?=some (a:Int)):=zab hx;clear h hB ha hx hh hy hal hy0 hy1 hk hbb;go_enter Tryz.func77,Tryz.ntmps77
    go_wp2_with fail
    refine CA.o.mono ?_;rintro e w1 ⟨rfl,k1,hw1⟩;have H1:Hid (MAt w1 mb wb fv m):=zab (by rw[hw1];exact HH.o.drewN k1);have F1:Hid (Fr (MB mb wb fv) w w1):=zab (by rw[hw1];exact (Fr.refl _ _).drewN k1);clear hw1;have c0:=H1.o.sat.c0;have cy:=H1.o.sat.word HY.o;go_wp2_with fail
    refine (CK.o _).mono ?_;rintro e w2 ⟨rfl,hw2⟩;subst w2;go_wp2_with fail
    refine (CW.o _).mono ?_;rintro e w2 ⟨rfl,hw2⟩;subst w2;clear cy;have c4:=H1.o.sat.c4;have ct:=H1.o.sat.word HXT.o;have cf:=H1.o.sat.zey.frozen m.s.top;have hoth:=zcg H1.o.sat.ne;go_wp2_with fail
    go_region_held3 (fun W=>W.cell? ⟨mb,0,none⟩=some (.slice (some ⟨wb,0,none⟩) m.s.ws.length m.s.ws.length)/\W.cell? ⟨mb,4,none⟩=some (.int .i64 m.s.top)) (go_keep) (fail)
    all_goals
     have H5:=zab (H1.o.sat.zcB m.s.top b).drew;have F5:Hid (Fr (M2 mb wb) w1 ((w1.setCell ⟨wb,m.s.top,none⟩ (.int .i64 b)).drew)):=zab ((Fr.refl _ _).set _ _ (.inl (.inr rfl))).drew;generalize (w1.setCell ⟨wb,m.s.top,none⟩ (.int .i64 b)).drew=w3 at H5 F5;have H3:=zab (H1.o.fr2 H5.o F5.o);have F3:=zab (F1.o.trans (F5.o.zcW fv));clear c0 c4 ct cf hoth H5 F5;have HB':=HB;obtain ⟨m2,hm2⟩:∃ m2:MSt,({ m with s:={ m.s with ws:=m.s.ws.set m.s.top (b:Int) } }:MSt)=m2:=⟨_,rfl⟩;have ho2:m2.o=m.o:=by rw[<-hm2]
     rw[<-ho2]at HB';rw[hm2]at hb H3;clear hm2 ho2;unfold MSt.zcy at hb;split at hb
     ·cases hb
     ·next z hz=>
      obtain ⟨hz',hz0,hz1,hzl⟩:=Sto.zaT hz;have CKz:=zab (fun W:World=>za2 z W hz0 hz1);have hzl':(b:Int)<((m2).s.ws.length:Int):=by omega
      have HZ:=zab hz';clear hz hz' hz0 hz1 hzl;split at hb
      ·next hbusy=>
       obtain rfl:=zxQ hb;rw[hbusy]at CKz;clear hb hbusy;go_wp2_with fail
       go_loopg [33] ((m2).o.fuel+1) (fun gk _ wr=>∃ q:MSt,MAt wr mb wb fv q/\q.s=(m2).s/\q.o.fuel+1=gk/\Fr (MB mb wb fv) w wr)
       case atStart=>exact ⟨m2,H3.o,rfl,rfl,F3.o⟩
       case round=>
        obtain ⟨q,hq,hs,hg,hfr⟩:=hrel;have c0:=hq.sat.c0;rw[hs]at c0;have cz:=hq.sat.word (by rw[hs];exact HZ.o);have HQ:=zab hq;have HS:=zab hs;have HG:=zab hg;have HFR:=zab hfr;clear hq hs hg hfr;go_wp2_with fail
        refine (CKz.o _).mono ?_;rintro e w5 ⟨rfl,hw5⟩;subst w5;clear c0 cz;go_wp2_with fail
        refine (zmn HQ.o).mono ?_;unfold MSt.zsQ;split
        ·rintro e w6 ⟨f6,rfl,h6⟩;exact ⟨rfl,HFR.o.trans f6,rfl,h6⟩
        ·next hne=>
         have HNE:=zab hne;clear hne;rintro e w6 ⟨f6,rfl,h6⟩;have H6:=zab h6;have F6:=zab (HFR.o.trans f6);clear f6 h6;go_wp2_with fail
         go_roundg (gk-1)
         case measure=>have:=HG.o;omega
         case rel=>exact ⟨_,H6.o,HS.o,by have:=HG.o;have:=HNE.o;simp only;omega,F6.o⟩
      ·next hbusy=>
       have hkb:(z%16 == 3)=false:=by rw[beq_eq_false_iff_ne];exact hbusy
       generalize z%16=kz at CKz hkb hbusy;split at hb
       ·cases hb
       ·next l hl=>
        have CL:=zab (fun (W:World) (hW:MAt W mb wb fv (m2)) (hW2:BAt W mb wb fv (m2).o.pb sl)=>zi9 hW hW2 hl);clear hl;go_wp2_with fail
        go_loopg [33] 1 (fun _ _ wr=>MAt wr mb wb fv (m2)/\Fr (MB mb wb fv) w wr)
        case atStart=>exact ⟨H3.o,F3.o⟩
        case round=>
         obtain ⟨hq,hfr⟩:=hrel;have c0:=hq.sat.c0;have cz:=hq.sat.word HZ.o;have HQ:=zab hq;have HFR:=zab hfr;clear hq hfr;go_wp2_with fail
         refine (CKz.o _).mono ?_;rintro e w5 ⟨rfl,hw5⟩;subst w5;clear c0 cz;go_wp2_with fail
         refine (CL.o _ HQ.o (HB'.o.fr HFR.o)).mono ?_;rintro e w6 ⟨rfl,k6,hw6⟩;have H6:Hid (MAt w6 mb wb fv (m2)):=zab (by rw[hw6];exact HQ.o.drewN k6);have F6:Hid (Fr (MB mb wb fv) w w6):=zab (by rw[hw6];exact HFR.o.drewN k6);clear hw6;split at hb
         ·next hl0=>
          subst hl0;have CB:=zab (znd H6.o hb);clear hb;go_wp2_with fail
          refine CB.o.mono ?_;cases r with
          |error j=>
           rintro e w7 ⟨f7,rfl,h7⟩;exact ⟨rfl,F6.o.trans f7,rfl,h7⟩
          |ok m'=>
           rintro e w7 ⟨f7,rfl,h7⟩;have H7:=zab h7;have F7:=zab (F6.o.trans f7);clear f7 h7;go_wp2_with fail
           first|go_end0|refine bodyPost_ret (results_none rfl _ _ _) rfl ?_
           exact ⟨F7.o,rfl,H7.o⟩
         ·next hl0=>
          have hlb0:(l == 0)=false:=by rw[beq_eq_false_iff_ne];exact hl0
          have CB:=zab (zlg H6.o (HB'.o.fr F6.o) hb);clear hb;go_wp2_with fail
          refine CB.o.mono ?_;cases r with
          |error j=>
           rintro e w7 ⟨f7,rfl,h7⟩;exact ⟨rfl,F6.o.trans f7,rfl,h7⟩
          |ok m'=>
           rintro e w7 ⟨f7,rfl,h7⟩;have H7:=zab h7;have F7:=zab (F6.o.trans f7);clear f7 h7;go_wp2_with fail
           first|go_end0|refine bodyPost_ret (results_none rfl _ _ _) rfl ?_
           exact ⟨F7.o,rfl,H7.o⟩
  ·next hk=>
   have hk4:(y%16 == 4)=false:=by rw[beq_eq_false_iff_ne];exact hk
   generalize y%16=ky at CK hk4 hk;clear h hB ha hx hh hy hal hy0 hy1 hk;go_enter Tryz.func77,Tryz.ntmps77
   go_wp2_with fail
   refine CA.o.mono ?_;rintro e w1 ⟨rfl,k1,hw1⟩;have H1:Hid (MAt w1 mb wb fv m):=zab (by rw[hw1];exact HH.o.drewN k1);have F1:Hid (Fr (MB mb wb fv) w w1):=zab (by rw[hw1];exact (Fr.refl _ _).drewN k1);clear hw1;have c0:=H1.o.sat.c0;have cy:=H1.o.sat.word HY.o;go_wp2_with fail
   refine (CK.o _).mono ?_;rintro e w2 ⟨rfl,hw2⟩;subst w2;clear c0 cy;have HB':=HB;have H3:=H1;have F3:=F1;unfold MSt.zcy at hb;split at hb
   ·cases hb
   ·next z hz=>
    obtain ⟨hz',hz0,hz1,hzl⟩:=Sto.zaT hz;have CKz:=zab (fun W:World=>za2 z W hz0 hz1);have hzl':(a:Int)<((m).s.ws.length:Int):=by omega
    have HZ:=zab hz';clear hz hz' hz0 hz1 hzl;split at hb
    ·next hbusy=>
     obtain rfl:=zxQ hb;rw[hbusy]at CKz;clear hb hbusy;go_wp2_with fail
     go_loopg [33] ((m).o.fuel+1) (fun gk _ wr=>∃ q:MSt,MAt wr mb wb fv q/\q.s=(m).s/\q.o.fuel+1=gk/\Fr (MB mb wb fv) w wr)
     case atStart=>exact ⟨m,H3.o,rfl,rfl,F3.o⟩
     case round=>
      obtain ⟨q,hq,hs,hg,hfr⟩:=hrel;have c0:=hq.sat.c0;rw[hs]at c0;have cz:=hq.sat.word (by rw[hs];exact HZ.o);have HQ:=zab hq;have HS:=zab hs;have HG:=zab hg;have HFR:=zab hfr;clear hq hs hg hfr;go_wp2_with fail
      refine (CKz.o _).mono ?_;rintro e w5 ⟨rfl,hw5⟩;subst w5;clear c0 cz;go_wp2_with fail
      refine (zmn HQ.o).mono ?_;unfold MSt.zsQ;split
      ·rintro e w6 ⟨f6,rfl,h6⟩;exact ⟨rfl,HFR.o.trans f6,rfl,h6⟩
      ·next hne=>
       have HNE:=zab hne;clear hne;rintro e w6 ⟨f6,rfl,h6⟩;have H6:=zab h6;have F6:=zab (HFR.o.trans f6);clear f6 h6;go_wp2_with fail
       go_roundg (gk-1)
       case measure=>have:=HG.o;omega
       case rel=>exact ⟨_,H6.o,HS.o,by have:=HG.o;have:=HNE.o;simp only;omega,F6.o⟩
    ·next hbusy=>
     have hkb:(z%16 == 3)=false:=by rw[beq_eq_false_iff_ne];exact hbusy
     generalize z%16=kz at CKz hkb hbusy;split at hb
     ·cases hb
     ·next l hl=>
      have CL:=zab (fun (W:World) (hW:MAt W mb wb fv (m)) (hW2:BAt W mb wb fv (m).o.pb sl)=>zi9 hW hW2 hl);clear hl;go_wp2_with fail
      go_loopg [33] 1 (fun _ _ wr=>MAt wr mb wb fv (m)/\Fr (MB mb wb fv) w wr)
      case atStart=>exact ⟨H3.o,F3.o⟩
      case round=>
       obtain ⟨hq,hfr⟩:=hrel;have c0:=hq.sat.c0;have cz:=hq.sat.word HZ.o;have HQ:=zab hq;have HFR:=zab hfr;clear hq hfr;go_wp2_with fail
       refine (CKz.o _).mono ?_;rintro e w5 ⟨rfl,hw5⟩;subst w5;clear c0 cz;go_wp2_with fail
       refine (CL.o _ HQ.o (HB'.o.fr HFR.o)).mono ?_;rintro e w6 ⟨rfl,k6,hw6⟩;have H6:Hid (MAt w6 mb wb fv (m)):=zab (by rw[hw6];exact HQ.o.drewN k6);have F6:Hid (Fr (MB mb wb fv) w w6):=zab (by rw[hw6];exact HFR.o.drewN k6);clear hw6;split at hb
       ·next hl0=>
        subst hl0;have CB:=zab (znd H6.o hb);clear hb;go_wp2_with fail
        refine CB.o.mono ?_;cases r with
        |error j=>
         rintro e w7 ⟨f7,rfl,h7⟩;exact ⟨rfl,F6.o.trans f7,rfl,h7⟩
        |ok m'=>
         rintro e w7 ⟨f7,rfl,h7⟩;have H7:=zab h7;have F7:=zab (F6.o.trans f7);clear f7 h7;go_wp2_with fail
         first|go_end0|refine bodyPost_ret (results_none rfl _ _ _) rfl ?_
         exact ⟨F7.o,rfl,H7.o⟩
       ·next hl0=>
        have hlb0:(l == 0)=false:=by rw[beq_eq_false_iff_ne];exact hl0
        have CB:=zab (zlg H6.o (HB'.o.fr F6.o) hb);clear hb;go_wp2_with fail
        refine CB.o.mono ?_;cases r with
        |error j=>
         rintro e w7 ⟨f7,rfl,h7⟩;exact ⟨rfl,F6.o.trans f7,rfl,h7⟩
        |ok m'=>
         rintro e w7 ⟨f7,rfl,h7⟩;have H7:=zab h7;have F7:=zab (F6.o.trans f7);clear f7 h7;go_wp2_with fail
         first|go_end0|refine bodyPost_ret (results_none rfl _ _ _) rfl ?_
         exact ⟨F7.o,rfl,H7.o⟩
end Go.Proofs.YtgahgkddaljmkaaGreatDoor
