/- Mach41 .. Mach42 -/
import Derived.Test.YtgahgkddaljmkaaGreatDoorW16
set_option maxRecDepth 100000
set_option maxHeartbeats 4000000
namespace Go.Proofs.YtgahgkddaljmkaaGreatDoor
open Tryz
open Go.RowKit
attribute [local go_sem ↓] Go.wp_at_zero Go.wp_at_succ
def MSt.zbm:Nat->Nat->MSt->Option (Except Nat MSt)
 |_,0,m=>some (.ok m)
 |i,k+1,m=>aft (m.zdI 1) fun m1=>
  match m1.s.node (Hd 2 i 0) [] with
  |none=>none
  |some s2=>MSt.zbm (i+1) k { m1 with s:=s2,fns:=m1.fns++[(m1.s.free:Int)] }
def MSt.start (m:MSt) (sl:List Nat):Option (Except Nat MSt):=
 match MSt.zbm 0 m.o.nf.toNat m with
 |none=>none
 |some (.error k)=>some (.error k)
 |some (.ok m1)=>aft (m1.zdI 1) fun m2=>
  if m2.o.main<0 then none else
  match m2.fns[m2.o.main.toNat]? with
  |none=>none
  |some x=>
   match m2.s.push x with
   |none=>none
   |some s=>MSt.enter { m2 with s:=s } sl
def EndsS (w:World) (mb wb:Nat) (r:Except Nat MSt) (e:Ending) (w':World):Prop:=
 Fr (M2 mb wb) w w'/\match r with
 |.ok m'=>e=.returned (.tuple #[])/\∃ fv,MAt w' mb wb fv m'/\zgJ w.heap.size fv
 |.error k=>e=up k/\∃ fv m',MAt w' mb wb fv m'/\zgJ w.heap.size fv
variable {w:World}
variable {mb wb:Nat}
variable {o:Oth}
variable {fv:Value}
theorem SAt.c6{s:Sto}(h:SAt w mb wb (zeu o fv) s):w.cell? ⟨mb,6,none⟩=some (.int .i64 o.nf):=h.blk.cell 6
theorem SAt.c7{s:Sto}(h:SAt w mb wb (zeu o fv) s):w.cell? ⟨mb,7,none⟩=some (.int .i64 o.main):=h.blk.cell 7
theorem zvA{fns:List Int}(h:zo4 w mb wb fns fv):∃ sp cap,fv=.slice sp fns.length cap:=by
 rcases h with ⟨rfl,rfl⟩|⟨fb,cap,sp,rfl,_⟩
 ·exact ⟨none,0,rfl⟩
 ·exact ⟨_,_,rfl⟩
theorem zxA(x:Int):∀ u∈[Value.int .i64 x],u.oneCell'=true:=by
 intro u hu;simp only[zzo,zzZ,or_false]at hu;subst hu;rfl
theorem added{w4 w5:World}{base g dU:Nat}{s2:Sto}{fns:List Int}{x:Int}{b:Obj}(hs:SAt w4 mb wb (zeu o fv) s2)(hf:zo4 w4 mb wb fns fv)(bZ:fns.length+1<=1000000)(si:o.fuel<=1000000000)(ai:w5.ownsRow base 2 1 (.slice (some ⟨g,0,none⟩) (fns.length+1) dU) (fns.length+1) (zdG fns++[.int .i64 x]))(ah:(w4.alloc b).grownBy w5 fv.ownBlock)(aV:fv.ownBlock=some g\/g=w4.heap.size+1)(_hb:base<=g):
  SAt w5 mb wb (zeu o fv) s2/\MAt (w5.setCell ⟨mb,8,none⟩ (.slice (some ⟨g,0,none⟩) (fns.length+1) dU)) mb wb (.slice (some ⟨g,0,none⟩) (fns.length+1) dU) ⟨s2,o,fns++[x]⟩:=by
 have nT:=hf.zyr;have fC:SAt w5 mb wb (zeu o fv) s2:=(hs.below (zam w4 b)).grown ah nT.1 nT.2;have hm:=hs.blk.lt;have hw:=hs.zeC.lt;have Ey:g≠mb:=by
  rcases aV with h1|h1
  ·intro e;subst e;exact nT.1 h1.symm
  ·omega
 have fq:g≠wb:=by
  rcases aV with h1|h1
  ·intro e;subst e;exact nT.2 h1.symm
  ·omega
 refine ⟨fC,fC.zyv _,?_,by simpa using bZ,si⟩;have e:(zdG fns++[.int .i64 x])=zdG (fns++[x]):=by simp[zdG]
 have el:fns.length+1=(fns++[x]).length:=by simp
 rw[e,el]at ai;have h1:=ztK ai Ey fq;rw[<-el]at h1;exact h1.fr ((Fr.refl _ _).set _ _ (.inl (.inl rfl)))
theorem zgJ.zaE{w5:World}{base g n cap:Nat}{xs:List Value}(h:w5.ownsRow base 2 1 (.slice (some ⟨g,0,none⟩) n cap) n xs):base<=g:=by
 rcases h.2 with ⟨h1,_⟩|⟨g',dU,cur,h1,h2,_⟩
 ·cases h1
 ·simp only[Value.slice.injEq,zyP,Addr.mk.injEq,and_true]at h1;rw[h1.1];exact h2
theorem Fr.grown{a b:World}(h:Fr (M2 mb wb) w a)(hg:a.grownBy b fv.ownBlock)(hf:zgJ w.heap.size fv):Fr (M2 mb wb) w b:=
 ⟨hg.os.trans h.os,hg.tape.trans h.tape,hg.output.trans h.output,zyR h.size hg.size,fun i hi hK=>(hg.block i (zyS hi h.size) (fun e=>by have:=hf i e.symm;omega)).trans (h.block i hi hK)⟩
theorem zon{n:Nat}{m:MSt}{sl:List Nat}{r:Except Nat MSt}(h:MAt w mb wb (.slice none 0 0) m)(hB:BAt w mb wb (.slice none 0 0) m.o.pb sl)(kg:m.fns=[])(hn:m.o.nf=n)(EV:n<=1000000)(hb:m.start sl=some r):
  Calls prog 46 #[.pointer (some ⟨mb,0,none⟩)] w fun e w'=>EndsS w mb wb r e w':=by
 obtain ⟨i0,hi,bq,aP,bF⟩:=info_parts zxq;have HI:=zab hi;clear hi;have HZ:=zab (And.intro bq (And.intro aP bF));clear bq aP bF;have c6:=h.sat.c6;rw[hn]at c6;unfold MSt.start at hb;rw[hn,zy2]at hb;obtain ⟨rr,nZ,eW⟩:∃ rr,MSt.zbm 0 n m=some rr/\(match rr with|.error k=>some (.error k)|.ok m1=>aft (m1.zdI 1) fun m2=>if m2.o.main<0 then none else match m2.fns[m2.o.main.toNat]? with|none=>none|some x=>match m2.s.push x with|none=>none|some s=>MSt.enter { m2 with s:=s } sl)=some r:=by
  cases h2:MSt.zbm 0 n m with
  |none=>rw[h2]at hb;cases hb
  |some rr=>rw[h2]at hb;refine ⟨rr,rfl,?_⟩;cases rr <;> exact hb
 have HH:=zab h;have HB:=zab hB;have ui:=zab nZ;have qt:=zab eW;have pE:=zab kg;clear h hB hb nZ eW kg hn;go_enter func46,ntmps46
 go_wp2_with fail
 go_loopg [8] n (fun gk iv wr=>∃ (i:Nat) (q:MSt) (fv:Value),iv=.int .i64 i/\i+gk=n/\MAt wr mb wb fv q/\zgJ w.heap.size fv/\q.o=m.o/\q.fns.length=i/\MSt.zbm i gk q=some rr/\Fr (M2 mb wb) w wr)
 case atStart=>exact ⟨0,m,_,rfl,by omega,HH.o,(by intro k hk;cases hk),rfl,by rw[pE.o];rfl,ui.o,Fr.refl _ _⟩
 case round=>
  obtain ⟨i,q,fv,rfl,jm,hq,ak,AH,p7,dH,gr⟩:=hrel;have HQ:=zab hq;have du:=zab ak;have y7:=zab AH;have vQ:=zab p7;have kA:=zab gr;clear hq ak AH p7 gr c6;cases gk with
  |zero=>
   obtain rfl:=zyU dH;have nP:¬ (i:Int)<(n:Int):=by omega
   have hf:=qt.o;dsimp only at hf;unfold aft at hf;split at hf
   ·cases hf
   ·next k hn=>
    obtain rfl:=zyU hf;have CN:=zab (zaW HQ.o hn);clear hn hf dH;go_wp2_with fail
    refine CN.o.mono ?_;rintro e w3 ⟨f3,rfl,h3⟩;obtain ⟨m',fO⟩:=h3;exact ⟨rfl,kA.o.zyc f3 du.o,rfl,fv,m',fO,du.o⟩
   ·next m2 hn=>
    have CN:=zab (zaW HQ.o hn);have sI:m2.o=m.o:=(zqH hn).trans y7.o;dsimp only at hf;split at hf
    ·cases hf
    ·next ET=>
     split at hf
     ·cases hf
     ·next x hx=>
      split at hf
      ·cases hf
      ·next s aM=>
       obtain ⟨mn,cL⟩:∃ mn:Nat,m2.o.main=mn:=⟨m2.o.main.toNat,by omega⟩;rw[cL,zy2]at hx;have HX:=zab hx;have je:=zab aM;have BY:=zab hf;have ny:=zab cL;have dk:=(zyL.1 hx).1;have Fw:(mn:Int)<(m2.fns.length:Int):=by omega
       have vL:=zab sI;clear hn hf dH ET hx aM cL dk sI;go_wp2_with fail
       refine CN.o.mono ?_;rintro e w3 ⟨f3,rfl,h3⟩;have H3:=zab h3;have F3:=zab (kA.o.zyc f3 du.o);clear f3 CN;rcases h3.fat with ⟨_,ck⟩|⟨fb,cap,sp,rfl,oV,_⟩
       ·have hx:=HX.o;rw[ck]at hx;cases hx
       ·have c8:=h3.sat.c8;have c7:=h3.sat.c7;rw[ny.o]at c7;have cx:=oV.word HX.o;have vA:=zab oV;clear h3 oV;go_wp2_with fail
        go_region_held3 (fun W=>W.cell? ⟨mb,8,none⟩=some (.slice (some ⟨fb,0,none⟩) m2.fns.length cap)/\W.cell? ⟨mb,7,none⟩=some (.int .i64 mn)/\W.cell? ⟨fb,mn,none⟩=some (.int .i64 x)) (first|go_keep|(refine ⟨?_,?_,?_⟩ <;> assumption)) ((go_at_call 76;refine (Sto.zb5 H3.o.sat.drew je.o).mono ?_;rintro e w4 ⟨rfl,h4,f4⟩;have H4:=zab h4;have F4:Hid (Fr (M2 mb wb) w3 w4):=zab ((Fr.refl _ _).drew.trans f4);have e0:=h4.c8;have e7:w4.cell? ⟨mb,7,none⟩=some (.int .i64 mn):=(by rw[h4.c7,ny.o]);have ex:=(vA.o.fr F4.o).word HX.o;clear h4 f4))
        all_goals
         have H5:=zab (H3.o.fr2 H4.o F4.o);have F5:=zab (F3.o.trans F4.o);have kx:Hid (BAt w4 mb wb (.slice (some ⟨fb,0,none⟩) m2.fns.length cap) m2.o.pb sl):=zab (by rw[vL.o];exact HB.o.mv F5.o du.o);have CE:=zab (znM H5.o kx.o BY.o);clear c8 c7 cx e0 e7 ex;go_wp2_with fail
         refine CE.o.mono ?_;cases r with
         |error j=>
          rintro e w7 ⟨f7,rfl,m',h7⟩;exact ⟨rfl,F5.o.zyc f7 du.o,rfl,_,m',h7,du.o⟩
         |ok m'=>
          rintro e w7 ⟨f7,rfl,h7⟩;have H7:=zab h7;have F7:=zab (F5.o.zyc f7 du.o);clear f7 h7;go_wp2_with fail
          first|go_end0|refine bodyPost_ret (results_none rfl _ _ _) rfl ?_
          exact ⟨F7.o,rfl,_,H7.o,du.o⟩
  |succ g=>
   have nP:(i:Int)<(n:Int):=by omega
   rw[MSt.zbm]at dH;unfold aft at dH;split at dH
   ·cases dH
   ·next k hn=>
    obtain rfl:=zyU dH;have hf:=qt.o;obtain rfl:=zyU hf;have CN:=zab (zaW HQ.o hn);clear hn hf dH;go_wp2_with fail
    refine CN.o.mono ?_;rintro e w3 ⟨f3,rfl,h3⟩;obtain ⟨m',fO⟩:=h3;exact ⟨rfl,kA.o.zyc f3 du.o,rfl,fv,m',fO,du.o⟩
   ·next m1 hn=>
    dsimp only at dH;split at dH
    ·cases dH
    ·next s2 bg=>
     have CN:=zab (zaW HQ.o hn);have sI:m1.o=m.o:=(zqH hn).trans y7.o;have Av:m1.fns.length=i:=(zxz hn).trans vQ.o;have CH:=zab (fun W:World=>zbt 2 i 0 W (by omega) (by omega) (by omega));obtain ⟨z,hz⟩:∃ z,Hd 2 i 0=z:=⟨_,rfl⟩;rw[hz]at CH bg;have ue:=zab bg;have vH:=zab dH;have vL:=zab sI;have y6:=zab Av;clear hn bg dH sI Av hz;go_wp2_with fail
     refine CN.o.mono ?_;rintro e w3 ⟨f3,rfl,h3⟩;have F3:=zab (kA.o.zyc f3 du.o);obtain ⟨sp,cap,bI⟩:=zvA h3.fat;subst bI;have c8:=h3.sat.c8;have H3:=zab h3;have bZ:m1.fns.length<=1000000:=h3.fl;clear f3 h3 CN;go_wp2_with fail
     go_region_law (first
      |(refine step_append_lies _ (by rfl) _ _ _ (by rfl) w.heap.size 2 i0 _ 1 8 underlying76 HI.o HZ.o.1 HZ.o.2.1 HZ.o.2.2 rfl (by omega) (.slice sp m1.fns.length cap) m1.fns.length (zdG m1.fns) (by rfl) (yL.o.fr (Fr.below (zam _ _))|>.owns du.o) ⟨w4.heap.size,0,none⟩ 1 1 [.int .i64 m1.s.free] (by rfl) (by rfl) (World.news_of_block (cs:=#[.int .i64 m1.s.free]) (t:=2) (fr:=(0,0)) (heap_alloc_new w4 _)) (zxA _) (by omega) (by unfold maxLen;omega) (by omega) (by have:=F4.o.size;simp;omega) (w4.heap.size+1) (by simp) ?_;intro g' dU w5 ai ah aV aj;have AD:=zab (added H4.o yL.o (by have:=y6.o;omega) H3.o.fuel ai ah aV (zgJ.zaE ai));have Cr:=zab ai;have Ce:=zab ah;have d8:=AD.o.1.c8;have df:=AD.o.1.blk.frozen 8;clear ai ah aV aj)
      |(go_simp;go_wp2_with (first
        |(go_at_call 75;refine (CH.o _).mono ?_;rintro e FW ⟨rfl,Fo⟩;subst FW)
        |(go_at_call 74;refine (Sto.zej (sp:=none) (cp:=0) H3.o.sat.drew ue.o (fun h0=>absurd h0 (by simp))).mono ?_;rintro e w4 ⟨rfl,h4,f4⟩;have H4:=zab h4;have F4:=zab (F3.o.drew.trans f4);have yL:=zab (H3.o.fat.fr ((Fr.refl _ _).drew.trans f4));have d8:=h4.c8;have a8:=(h4.below (zam w4 (.cells #[.int .i64 m1.s.free] 2))).c8;have n4:w4.heap.size≠mb:=(by have:=h4.blk.lt;omega);clear h4 f4))))
     all_goals
      have HA:=zab AD.o.2;have FA:Hid (Fr (M2 mb wb) w (w5.setCell ⟨mb,8,none⟩ (.slice (some ⟨g',0,none⟩) (m1.fns.length+1) dU))):=zab (((F4.o.alloc _).grown Ce.o du.o).set _ _ (.inl (.inl rfl)));generalize w5.setCell ⟨mb,8,none⟩ (.slice (some ⟨g',0,none⟩) (m1.fns.length+1) dU)=w6 at HA FA ⊢;clear c8 d8 a8 df n4;go_wp2_with fail
      go_roundg g
      case measure=>omega
      case rel=>
       refine ⟨i+1,_,_,by go_num,by omega,HA.o,?_,vL.o,by have:=y6.o;simp;omega,vH.o,FA.o⟩;intro k hk;simp only[Value.ownBlock,zyP]at hk;rw[<-hk];exact zgJ.zaE Cr.o
theorem zsV(x:Value)(w:World):(Instr.typeAssert (.iface 82 x) 20 82 true).run prog w=.ok (.tuple #[x,.bool true]) w:=by kernel_rfl
theorem zgd(bm bo mb:Nat)(k:Nat)(w:World)(o0 o1 o2 o3:Value)(tl:List Value)(x0 x1 x2 x3 x4:Value)(t:TypeId)(hm:Blk w bm [.pointer (some ⟨mb,0,none⟩)] 75)(hM:Blk w mb (x0::x1::x2::x3::x4::tl) t)(hO:Blk w bo [o0,o1,o2,o3] 35)(_h1:bm≠mb)(h2:bo≠mb)(_h3:bo≠bm):
  CallsD prog 45 #[.pointer (some ⟨bm,0,none⟩),.pointer (some ⟨bo,0,none⟩)] (.panicking [{ v:=.iface 82 (.int .i64 k),recovered:=false }]) w fun e u' w'=>
   e=.returned (.tuple #[])/\u'=.panicking [{ v:=.iface 82 (.int .i64 k),recovered:=true }]/\Blk w' bo [.int .i64 k,.int .i64 0,.int .i64 0,.int .i64 0] 35/\Fr (fun i=>i=mb\/i=bo) w w':=by
 refine callsD_of_wpS func45 rfl fun c₀ cs hu=>?_
 have c:=Blk.cell hm 0;have m0:=Blk.cell hM 0;have m1:=Blk.cell hM 1;have m2:=Blk.cell hM 2;have m3:=Blk.cell hM 3;have m4:=Blk.cell hM 4;simp at c m0 m1 m2 m3 m4;have f0:=Blk.frozen hM 0;have f1:=Blk.frozen hM 1;have f2:=Blk.frozen hM 2;have f3:=Blk.frozen hM 3;have f4:=Blk.frozen hM 4;have HM:=zab hM;have HO:=zab hO;have Cn:=zab hm;clear hM hO hm;obtain ⟨R,hR⟩:∃ R:Ending->FrameMode->World->Prop,∀ e u' w',R e u' w'↔(e=.returned (.tuple #[])/\u'=.panicking [{ v:=.iface 82 (.int .i64 k),recovered:=true }]/\Blk w' bo [.int .i64 k,.int .i64 0,.int .i64 0,.int .i64 0] 35/\Fr (fun i=>i=mb\/i=bo) w w'):=⟨_,fun _ _ _=>zAz⟩;rw[show (fun e u' w'=>e=Ending.returned (.tuple #[])/\u'=.panicking [{ v:=.iface 82 (.int .i64 k),recovered:=true }]/\Blk w' bo [.int .i64 k,.int .i64 0,.int .i64 0,.int .i64 0] 35/\Fr (fun i=>i=mb\/i=bo) w w')=R from funext fun e=>funext fun u'=>funext fun w'=>propext (hR e u' w').symm];have HR:=zab hR;clear hR;apply wpS_seq;refine wpS_of_wp ?_;simp only[ntmps45,zzr,zy8,zzm,Nat.reduceAdd,Nat.reduceSub,zzB,zzC,zzH,zzE,zzb,zy7];go_wp2_with fail
 have F1:Hid (Fr (fun i=>i=mb\/i=bo) w (((((w.setCell ⟨mb,0,none⟩ (.slice none 0 0)).setCell ⟨mb,1,none⟩ (.int .i64 0)).setCell ⟨mb,2,none⟩ (.int .i64 0)).setCell ⟨mb,3,none⟩ (.int .i64 0)).setCell ⟨mb,4,none⟩ (.int .i64 0))):=
  zab ((((((Fr.refl _ _).set _ _ (.inl (.inl rfl))).set _ _ (.inl (.inl rfl))).set _ _ (.inl (.inl rfl))).set _ _ (.inl (.inl rfl))).set _ _ (.inl (.inl rfl)))
 have O1:Hid (Blk (((((w.setCell ⟨mb,0,none⟩ (.slice none 0 0)).setCell ⟨mb,1,none⟩ (.int .i64 0)).setCell ⟨mb,2,none⟩ (.int .i64 0)).setCell ⟨mb,3,none⟩ (.int .i64 0)).setCell ⟨mb,4,none⟩ (.int .i64 0)) bo [o0,o1,o2,o3] 35):=
  zab (((((HO.o.other _ _ h2).other _ _ h2).other _ _ h2).other _ _ h2).other _ _ h2)
 generalize (((((w.setCell ⟨mb,0,none⟩ (.slice none 0 0)).setCell ⟨mb,1,none⟩ (.int .i64 0)).setCell ⟨mb,2,none⟩ (.int .i64 0)).setCell ⟨mb,3,none⟩ (.int .i64 0)).setCell ⟨mb,4,none⟩ (.int .i64 0))=w1 at F1 O1 ⊢;clear c m0 m1 m2 m3 m4 f0 f1 f2 f3 f4;simp only[Exit.thenS];apply wpS_seq;apply wpS_region;simp[wpOpsS,go_sem,recoverD,hu,Exit.thenS];refine wpS_of_wp ?_;have q0:=Blk.cell O1.o 0;have q1:=Blk.cell O1.o 1;have q2:=Blk.cell O1.o 2;have q3:=Blk.cell O1.o 3;simp at q0 q1 q2 q3;have g0:=Blk.frozen O1.o 0;have g1:=Blk.frozen O1.o 1;have g2:=Blk.frozen O1.o 2;have g3:=Blk.frozen O1.o 3;have er:=zsV;go_wp2_with fail
 have cE:=(((O1.o.set 0 (.int .i64 k)).set 1 (.int .i64 0)).set 2 (.int .i64 0)).set 3 (.int .i64 0);have FF:Fr (fun i=>i=mb\/i=bo) w ((((w1.setCell ⟨bo,0,none⟩ (.int .i64 k)).setCell ⟨bo,1,none⟩ (.int .i64 0)).setCell ⟨bo,2,none⟩ (.int .i64 0)).setCell ⟨bo,3,none⟩ (.int .i64 0)):=
  (((F1.o.set _ _ (.inl (.inr rfl))).set _ _ (.inl (.inr rfl))).set _ _ (.inl (.inr rfl))).set _ _ (.inl (.inr rfl))
 exact ⟨rfl,_,rfl,_,results_none rfl _ _ _,(HR.o _ _ _).2 ⟨rfl,rfl,cE,FF⟩⟩
theorem zt0(bm bo mb:Nat)(w:World)(o0 o1 o2 o3:Value)(tl:List Value)(x0 x1 x2 x3 x4:Value)(t:TypeId)(hm:Blk w bm [.pointer (some ⟨mb,0,none⟩)] 75)(hM:Blk w mb (x0::x1::x2::x3::x4::tl) t)(hO:Blk w bo [o0,o1,o2,o3] 35)(_h1:bm≠mb)(h2:bo≠mb)(_h3:bo≠bm):
  CallsD prog 45 #[.pointer (some ⟨bm,0,none⟩),.pointer (some ⟨bo,0,none⟩)] .returning w fun e u' w'=>
   e=.returned (.tuple #[])/\u'=.returning/\Blk w' bo [o0,o1,o2,o3] 35/\Fr (fun i=>i=mb\/i=bo) w w':=by
 refine callsD_of_wpS func45 rfl fun c₀ cs hu=>?_
 have c:=Blk.cell hm 0;have m0:=Blk.cell hM 0;have m1:=Blk.cell hM 1;have m2:=Blk.cell hM 2;have m3:=Blk.cell hM 3;have m4:=Blk.cell hM 4;simp at c m0 m1 m2 m3 m4;have f0:=Blk.frozen hM 0;have f1:=Blk.frozen hM 1;have f2:=Blk.frozen hM 2;have f3:=Blk.frozen hM 3;have f4:=Blk.frozen hM 4;have HM:=zab hM;have HO:=zab hO;have Cn:=zab hm;clear hM hO hm;obtain ⟨R,hR⟩:∃ R:Ending->FrameMode->World->Prop,∀ e u' w',R e u' w'↔(e=.returned (.tuple #[])/\u'=.returning/\Blk w' bo [o0,o1,o2,o3] 35/\Fr (fun i=>i=mb\/i=bo) w w'):=⟨_,fun _ _ _=>zAz⟩;rw[show (fun e u' w'=>e=Ending.returned (.tuple #[])/\u'=.returning/\Blk w' bo [o0,o1,o2,o3] 35/\Fr (fun i=>i=mb\/i=bo) w w')=R from funext fun e=>funext fun u'=>funext fun w'=>propext (hR e u' w').symm];have HR:=zab hR;clear hR;apply wpS_seq;refine wpS_of_wp ?_;simp only[ntmps45,zzr,zy8,zzm,Nat.reduceAdd,Nat.reduceSub,zzB,zzC,zzH,zzE,zzb,zy7];go_wp2_with fail
 have F1:Hid (Fr (fun i=>i=mb\/i=bo) w (((((w.setCell ⟨mb,0,none⟩ (.slice none 0 0)).setCell ⟨mb,1,none⟩ (.int .i64 0)).setCell ⟨mb,2,none⟩ (.int .i64 0)).setCell ⟨mb,3,none⟩ (.int .i64 0)).setCell ⟨mb,4,none⟩ (.int .i64 0))):=
  zab ((((((Fr.refl _ _).set _ _ (.inl (.inl rfl))).set _ _ (.inl (.inl rfl))).set _ _ (.inl (.inl rfl))).set _ _ (.inl (.inl rfl))).set _ _ (.inl (.inl rfl)))
 have O1:Hid (Blk (((((w.setCell ⟨mb,0,none⟩ (.slice none 0 0)).setCell ⟨mb,1,none⟩ (.int .i64 0)).setCell ⟨mb,2,none⟩ (.int .i64 0)).setCell ⟨mb,3,none⟩ (.int .i64 0)).setCell ⟨mb,4,none⟩ (.int .i64 0)) bo [o0,o1,o2,o3] 35):=
  zab (((((HO.o.other _ _ h2).other _ _ h2).other _ _ h2).other _ _ h2).other _ _ h2)
 generalize (((((w.setCell ⟨mb,0,none⟩ (.slice none 0 0)).setCell ⟨mb,1,none⟩ (.int .i64 0)).setCell ⟨mb,2,none⟩ (.int .i64 0)).setCell ⟨mb,3,none⟩ (.int .i64 0)).setCell ⟨mb,4,none⟩ (.int .i64 0))=w1 at F1 O1 ⊢;clear c m0 m1 m2 m3 m4 f0 f1 f2 f3 f4;simp only[Exit.thenS];apply wpS_seq;apply wpS_region;simp[wpOpsS,go_sem,recoverD,hu,Exit.thenS];refine wpS_of_wp ?_;go_wp2_with fail
 exact ⟨rfl,.returning,by cases c₀;simp_all,_,results_none rfl _ _ _,(HR.o _ _ _).2 ⟨rfl,rfl,O1.o,F1.o⟩⟩
end Go.Proofs.YtgahgkddaljmkaaGreatDoor
