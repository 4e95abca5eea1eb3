/- Mach21 .. Mach31 -/
import Derived.Test.YtgahgkddaljmkaaGreatDoorQ2
set_option maxRecDepth 100000
set_option maxHeartbeats 4000000
namespace Go.Proofs.YtgahgkddaljmkaaGreatDoor
open Tryz
open Go.RowKit
attribute [local go_sem ↓] Go.wp_at_zero Go.wp_at_succ
def ziu (k n t a:Int):Value:=.agg #[.int .i64 k,.int .i64 n,.int .i64 t,.int .i64 a]
theorem MAt.alloc{w:World}{mb wb:Nat}{fv:Value}{m:MSt}(h:MAt w mb wb fv m)(o:Obj):MAt (w.alloc o) mb wb fv m:=⟨h.sat.below (zam w o),h.fat.fr (Fr.below (zam w o)),h.fl,h.fuel⟩
variable {w:World}{mb wb:Nat}{fv:Value}{m:MSt}{a:Nat}{y:Int}
theorem zmB(h:MAt w mb wb fv m)(ha:m.s.nodeAt 0=some (a,y))(h0:y%16≠0)(h1:y%16≠1):
  Calls prog 48 #[.pointer (some ⟨mb,0,none⟩)] w fun e w'=>e=.returned (ziu 3 0 0 0)/\Fr (fun _=>False) w w':=by
 obtain ⟨hx,hh⟩:=Sto.zaP ha;obtain ⟨hy,aT,bE,aU⟩:=Sto.zaU hh;have eo:(a:Int)<(m.s.ws.length:Int):=by omega
 have hlen:=h.sat.len;have CA:=zab (fun (W:World) (hW:MAt W mb wb fv m)=>zaA (d:=0) hW.sat _ hx);have CK:=zab (fun W:World=>za4 y W aT bE);have HH:=zab h;have HY:=zab hy;have dF:(y%16 == 0)=false:=by rw[beq_eq_false_iff_ne];exact h0
 have cK:(y%16 == 1)=false:=by rw[beq_eq_false_iff_ne];exact h1
 generalize y%16=k at *;clear h0 h1;clear h ha hx hy hh aT bE aU;go_enter func48,ntmps48
 go_wp2_with fail
 have HB:=zab (Blk.new w [.int .i64 0,.int .i64 0,.int .i64 0,.int .i64 0] 35);refine (CA.o _ (HH.o.alloc _)).mono ?_;rintro e w1 ⟨rfl,k1,aD⟩;have H1:Hid (MAt w1 mb wb fv m):=zab (by rw[aD];exact (HH.o.alloc _).drewN k1);have B1:Hid (Blk w1 w.heap.size [.int .i64 0,.int .i64 0,.int .i64 0,.int .i64 0] 35):=zab (by rw[aD];exact HB.o);have F1:Hid (Fr (fun _=>False) w w1):=zab (by rw[aD];exact ((Fr.refl _ _).alloc _).drewN k1);clear aD HB;have c0:=H1.o.sat.c0;have cy:=H1.o.sat.word HY.o;have iD:w.heap.size≠mb:=by have:=HH.o.sat.blk.lt;omega
 have q0:=Blk.cell B1.o 0;have q1:=Blk.cell B1.o 1;have q2:=Blk.cell B1.o 2;have q3:=Blk.cell B1.o 3;simp at q0 q1 q2 q3;have g0:=Blk.frozen B1.o 0;have g1:=Blk.frozen B1.o 1;have g2:=Blk.frozen B1.o 2;have g3:=Blk.frozen B1.o 3;go_wp2_with fail
 refine (CK.o _).mono ?_;rintro e w2 ⟨rfl,aB⟩;subst w2;go_wp2_with fail
 have cE:=(((B1.o.set 0 (.int .i64 3)).set 1 (.int .i64 0)).set 2 (.int .i64 0)).set 3 (.int .i64 0);have p0:=Blk.cell cE 0;have p1:=Blk.cell cE 1;have p2:=Blk.cell cE 2;have p3:=Blk.cell cE 3;simp at p0 p1 p2 p3;refine bodyPost_ret (by simp[results,Tryz.results48,go_sem,p0,p1,p2,p3];rfl) rfl ⟨rfl,?_⟩;exact (((F1.o.set ⟨w.heap.size,0,none⟩ _ (.inr (zyN _))).set ⟨w.heap.size,1,none⟩ _ (.inr (zyN _))).set ⟨w.heap.size,2,none⟩ _ (.inr (zyN _))).set ⟨w.heap.size,3,none⟩ _ (.inr (zyN _))
theorem zkF(h:MAt w mb wb fv m)(ha:m.s.nodeAt 0=some (a,y)){v:Int}(h0:y%16=0)(hv:m.s.ws[a+1]?=some v):
  Calls prog 48 #[.pointer (some ⟨mb,0,none⟩)] w fun e w'=>e=.returned (ziu 1 v 0 0)/\Fr (fun _=>False) w w':=by
 obtain ⟨hx,hh⟩:=Sto.zaP ha;obtain ⟨hy,aT,bE,aU⟩:=Sto.zaU hh;have eo:(a:Int)<(m.s.ws.length:Int):=by omega
 have hlen:=h.sat.len;have CA:=zab (fun (W:World) (hW:MAt W mb wb fv m)=>zaA (d:=0) hW.sat _ hx);have CK:=zab (fun W:World=>za4 y W aT bE);have HH:=zab h;have HY:=zab hy;rw[h0]at CK;have HV:=zab hv;have ji:(a:Int)+1<(m.s.ws.length:Int):=by have:=(zyL.1 hv).1;omega
 clear h0 hv;clear h ha hx hy hh aT bE aU;go_enter func48,ntmps48
 go_wp2_with fail
 have HB:=zab (Blk.new w [.int .i64 0,.int .i64 0,.int .i64 0,.int .i64 0] 35);refine (CA.o _ (HH.o.alloc _)).mono ?_;rintro e w1 ⟨rfl,k1,aD⟩;have H1:Hid (MAt w1 mb wb fv m):=zab (by rw[aD];exact (HH.o.alloc _).drewN k1);have B1:Hid (Blk w1 w.heap.size [.int .i64 0,.int .i64 0,.int .i64 0,.int .i64 0] 35):=zab (by rw[aD];exact HB.o);have F1:Hid (Fr (fun _=>False) w w1):=zab (by rw[aD];exact ((Fr.refl _ _).alloc _).drewN k1);clear aD HB;have c0:=H1.o.sat.c0;have cy:=H1.o.sat.word HY.o;have iD:w.heap.size≠mb:=by have:=HH.o.sat.blk.lt;omega
 have q0:=Blk.cell B1.o 0;have q1:=Blk.cell B1.o 1;have q2:=Blk.cell B1.o 2;have q3:=Blk.cell B1.o 3;simp at q0 q1 q2 q3;have g0:=Blk.frozen B1.o 0;have g1:=Blk.frozen B1.o 1;have g2:=Blk.frozen B1.o 2;have g3:=Blk.frozen B1.o 3;go_wp2_with fail
 refine (CK.o _).mono ?_;rintro e w2 ⟨rfl,aB⟩;subst w2;have cv:=H1.o.sat.word HV.o;go_wp2_with fail
 have cE:=(((B1.o.set 0 (.int .i64 1)).set 1 (.int .i64 v)).set 2 (.int .i64 0)).set 3 (.int .i64 0);have p0:=Blk.cell cE 0;have p1:=Blk.cell cE 1;have p2:=Blk.cell cE 2;have p3:=Blk.cell cE 3;simp at p0 p1 p2 p3;refine bodyPost_ret (by simp[results,Tryz.results48,go_sem,p0,p1,p2,p3];rfl) rfl ⟨rfl,?_⟩;exact (((F1.o.set ⟨w.heap.size,0,none⟩ _ (.inr (zyN _))).set ⟨w.heap.size,1,none⟩ _ (.inr (zyN _))).set ⟨w.heap.size,2,none⟩ _ (.inr (zyN _))).set ⟨w.heap.size,3,none⟩ _ (.inr (zyN _))
theorem zn4(h:MAt w mb wb fv m)(ha:m.s.nodeAt 0=some (a,y))(h0:y%16=1):
  Calls prog 48 #[.pointer (some ⟨mb,0,none⟩)] w fun e w'=>e=.returned (ziu 2 0 (y/65536) (y/16%4096))/\Fr (fun _=>False) w w':=by
 obtain ⟨hx,hh⟩:=Sto.zaP ha;obtain ⟨hy,aT,bE,aU⟩:=Sto.zaU hh;have eo:(a:Int)<(m.s.ws.length:Int):=by omega
 have hlen:=h.sat.len;have CA:=zab (fun (W:World) (hW:MAt W mb wb fv m)=>zaA (d:=0) hW.sat _ hx);have CK:=zab (fun W:World=>za4 y W aT bE);have HH:=zab h;have HY:=zab hy;rw[h0]at CK;have CW:=zab (fun W:World=>zbw y W aT bE);have CC:=zab (fun W:World=>za3 y W aT bE);generalize y/65536=tg at CW ⊢;generalize y/16%4096=ct at CC ⊢;clear h0;clear h ha hx hy hh aT bE aU;go_enter func48,ntmps48
 go_wp2_with fail
 have HB:=zab (Blk.new w [.int .i64 0,.int .i64 0,.int .i64 0,.int .i64 0] 35);refine (CA.o _ (HH.o.alloc _)).mono ?_;rintro e w1 ⟨rfl,k1,aD⟩;have H1:Hid (MAt w1 mb wb fv m):=zab (by rw[aD];exact (HH.o.alloc _).drewN k1);have B1:Hid (Blk w1 w.heap.size [.int .i64 0,.int .i64 0,.int .i64 0,.int .i64 0] 35):=zab (by rw[aD];exact HB.o);have F1:Hid (Fr (fun _=>False) w w1):=zab (by rw[aD];exact ((Fr.refl _ _).alloc _).drewN k1);clear aD HB;have c0:=H1.o.sat.c0;have cy:=H1.o.sat.word HY.o;have iD:w.heap.size≠mb:=by have:=HH.o.sat.blk.lt;omega
 have q0:=Blk.cell B1.o 0;have q1:=Blk.cell B1.o 1;have q2:=Blk.cell B1.o 2;have q3:=Blk.cell B1.o 3;simp at q0 q1 q2 q3;have g0:=Blk.frozen B1.o 0;have g1:=Blk.frozen B1.o 1;have g2:=Blk.frozen B1.o 2;have g3:=Blk.frozen B1.o 3;go_wp2_with fail
 refine (CK.o _).mono ?_;rintro e w2 ⟨rfl,aB⟩;subst w2;go_wp2_with fail
 refine (CW.o _).mono ?_;rintro e w3 ⟨rfl,bL⟩;subst w3;go_wp2_with fail
 refine (CC.o _).mono ?_;rintro e w3 ⟨rfl,bL⟩;subst w3;go_wp2_with fail
 have cE:=(((B1.o.set 0 (.int .i64 2)).set 1 (.int .i64 0)).set 2 (.int .i64 tg)).set 3 (.int .i64 ct);have p0:=Blk.cell cE 0;have p1:=Blk.cell cE 1;have p2:=Blk.cell cE 2;have p3:=Blk.cell cE 3;simp at p0 p1 p2 p3;refine bodyPost_ret (by simp[results,Tryz.results48,go_sem,p0,p1,p2,p3];rfl) rfl ⟨rfl,?_⟩;exact (((F1.o.set ⟨w.heap.size,0,none⟩ _ (.inr (zyN _))).set ⟨w.heap.size,1,none⟩ _ (.inr (zyN _))).set ⟨w.heap.size,2,none⟩ _ (.inr (zyN _))).set ⟨w.heap.size,3,none⟩ _ (.inr (zyN _))
def Sto.fill (s:Sto) (x:Int):Nat->Option Sto
 |0=>some s
 |k+1=>if s.free<s.ws.length then Sto.fill { s with ws:=s.ws.set s.free x,free:=s.free+1 } x k else none
def MSt.zjH (m:MSt) (hd:Int) (c:Nat):Option (Except Nat MSt):=aft (m.zdI (c+2)) fun m1=>
 m1.put ((m1.s.node hd []).bind fun s=>(s.fill m1.s.free c).bind fun q=>q.push m1.s.free)
variable {r:Except Nat MSt}{c:Nat}
theorem zpL(h:MAt w mb wb fv m){hd:Int}(jl:c<=1000000)(hc:m.zjH hd c=some r):
  Calls prog 134 #[.pointer (some ⟨mb,0,none⟩),.int .i64 hd,.int .i64 c] w fun e w'=>Ends w mb wb fv r e w':=by
 unfold MSt.zjH aft at hc;split at hc
 ·cases hc
 ·next k hn=>
  obtain rfl:=zyU hc;have CN:=zab (zaW h hn);simp only[zzq,zzJ]at CN;clear h hn hc;go_enter func134,ntmps134
  go_wp2_with fail
  refine CN.o.mono ?_;rintro e w1 ⟨f1,rfl,h1⟩;exact ⟨rfl,f1,rfl,h1⟩
 ·next m1 hn=>
  have CN:=zab (zaW h hn);simp only[zzq,zzJ]at CN;simp only[MSt.put,zyX,zyQ]at hc;obtain ⟨s4,⟨s2,bg,s3,nN,aM⟩,rfl⟩:=hc;have HN:=zab bg;have HF:=zab nN;have pH:=zab aM;obtain ⟨x,hx⟩:∃ x,m1.s.free=x:=⟨_,rfl⟩;rw[hx]at HF pH;have HX:=zab hx;clear h hn bg nN aM hx;go_enter func134,ntmps134
  go_wp2_with fail
  refine CN.o.mono ?_;rintro e w1 ⟨f1,rfl,h1⟩;have F1:=zab f1;have H1:=zab h1;clear f1 h1 CN;have CD:=zab (Sto.zej (sp:=none) (cp:=0) H1.o.sat HN.o (fun h0=>absurd h0 (by simp)));rw[HX.o]at CD;go_wp2_with fail
  refine CD.o.mono ?_;rintro e w2 ⟨rfl,h2,f2⟩;have H2:=zab h2;have F2:=zab f2;clear h2 f2 CD;go_wp2_with fail
  go_loopg [17] c (fun gk av wr=>∃ (j:Nat) (q:Sto),av=.int .i64 j/\j+gk=c/\SAt wr mb wb (zeu m1.o fv) q/\q.fill x gk=some s3/\Fr (M2 mb wb) w1 wr)
  case atStart=>exact ⟨0,s2,rfl,by omega,H2.o,HF.o,F2.o⟩
  case round=>
   obtain ⟨j,q,rfl,hj,hq,bZ,ak⟩:=hrel;cases gk with
   |zero=>
    have HQ:Hid (SAt wr mb wb (zeu m1.o fv) s3):=zab (by rw[<-zyU bZ];exact hq);have cY:=zab ak;have sy:¬ (j:Int)<(c:Int):=by omega
    clear hq bZ ak;go_wp2_with fail
    refine (Sto.zb5 HQ.o pH.o).mono ?_;rintro e w5 ⟨rfl,h5,f5⟩;have H5:=zab h5;have F5:=zab (cY.o.trans f5);clear h5 f5;go_wp2_with fail
    first|go_end0|refine bodyPost_ret (results_none rfl _ _ _) rfl ?_
    exact ⟨F1.o.trans (F5.o.zc9 fv),rfl,H1.o.fr2 H5.o F5.o⟩
   |succ g=>
    rw[Sto.fill]at bZ;split at bZ
    ·next aj=>
     obtain ⟨ws,hf,lo,fr,tp⟩:=q;simp only at aj bZ;have sy:(j:Int)<(c:Int):=by omega
     have c0:=hq.c0;have c3:=hq.c3;have cw:=hq.zko (i:=fr) aj;have cf:=hq.zeC.frozen fr;have fP:=zcj hq.ne;simp only at c0 c3 cw;have aA:(fr:Int)<(ws.length:Int):=by omega
     have aw:(0:Int)<=(fr:Int):=by omega
     have hlen:ws.length<=1000000:=hq.len;have HQ:=zab hq;have cY:=zab ak;have pG:=zab bZ;clear hq bZ ak;go_wp2_with fail
     go_region_held3 (fun W=>W.cell? ⟨mb,0,none⟩=some (.slice (some ⟨wb,0,none⟩) ws.length ws.length)/\W.cell? ⟨mb,3,none⟩=some (.int .i64 fr)) (go_keep) (fail)
     all_goals
      have H5:=zab (HQ.o.zcB fr x).drew;have F5:Hid (Fr (M2 mb wb) w1 ((wr.setCell ⟨wb,fr,none⟩ (.int .i64 x)).drew)):=zab (cY.o.set _ _ (.inl (.inr rfl))).drew;generalize (wr.setCell ⟨wb,fr,none⟩ (.int .i64 x)).drew=w5 at H5 F5;clear c0 c3 cw cf;have d3:=H5.o.c3;have df:=H5.o.blk.frozen 3;simp only at d3;go_wp2_with fail
      go_roundg g
      case measure=>omega
      case rel=>
       refine ⟨j+1,_,by go_num,by omega,H5.o.zjP (fr+1) (by omega),pG.o,?_⟩;exact F5.o.set _ _ (.inl (.inl rfl))
    ·cases bZ
theorem zxp:(prog.info? 2).map (fun i=>(i.size,i.bytes,i.zero))=some (1,8,some (.int .i64 0)):=by kernel_rfl
theorem zyq(n:Nat):madeCells (Value.cells (.int .i64 0)) n=(zdG (List.replicate n 0)).toArray:=by
 apply Array.ext
 ·simp[madeCells,zdG]
 ·intro i h1 h2;simp[madeCells,zdG,Value.cells,Nat.mod_one]
theorem ziP{n:Nat}(hn:n<=1000000)(W:World):(Instr.makeSlice 76 (.int .i64 (n:Int)) (.int .i64 (n:Int))).run prog W=.ok (.slice (some ⟨W.heap.size,0,none⟩) n n) (W.alloc (.cells (zdG (List.replicate n 0)).toArray 2)):=by
 obtain ⟨i,hi,he⟩:=zyX.1 zxp;simp only[zzL]at he;obtain ⟨h1,h2,h3⟩:=he;have:=run_make (P:=prog) W 76 2 i (.int .i64 0) underlying76 hi h3 .i64 .i64 n n (by omega) (by omega) (by rw[h2];omega) (by omega);rw[this,h1,zy2,zAt,zyq]
theorem zih{n:Nat}(hn:n<=1000000):
  Calls prog 44 #[.int .i64 n] w fun e w'=>e=.returned (.agg #[.slice (some ⟨w.heap.size+1,0,none⟩) n n,.int .i64 ((n:Int)/2),.int .i64 0,.int .i64 0,.int .i64 ((n:Int)/2)])/\Blk w' (w.heap.size+1) (zdG (List.replicate n 0)) 2/\Fr (fun _=>False) w w':=by
 have hb:(n:Int)<=1000000:=by omega
 have kf:(0:Int)<=(n:Int):=by omega
 have HM:=ziP hn;obtain ⟨vs,gW⟩:∃ vs,zdG (List.replicate n 0)=vs:=⟨_,rfl⟩;rw[gW]at HM ⊢;clear gW;go_enter func44,ntmps44
 go_wp2_with fail
 generalize (n:Int)/2=q;have cE:=(Blk.new w [.slice (some ⟨w.heap.size+1,0,none⟩) n n,.int .i64 q,.int .i64 0,.int .i64 0,.int .i64 q] 78).alloc (.cells vs.toArray 2);have BV:=Blk.new (w.alloc (.cells #[.slice (some ⟨w.heap.size+1,0,none⟩) n n,.int .i64 q,.int .i64 0,.int .i64 0,.int .i64 q] 78)) vs 2;rw[show (w.alloc (.cells #[.slice (some ⟨w.heap.size+1,0,none⟩) n n,.int .i64 q,.int .i64 0,.int .i64 0,.int .i64 q] 78)).heap.size=w.heap.size+1 by simp]at BV;have p0:=Blk.cell cE 0;have p1:=Blk.cell cE 1;have p2:=Blk.cell cE 2;have p3:=Blk.cell cE 3;have p4:=Blk.cell cE 4;simp only[zzl,zzT]at p0 p1 p2 p3 p4;refine bodyPost_ret (by simp[results,Tryz.results44,go_sem,p0,p1,p2,p3,p4]) rfl ⟨rfl,BV,((Fr.refl _ _).alloc _).alloc _⟩
def MSt.extended (m:MSt) (has c:Nat):Option MSt:=
 match m.s.nodeAt 0 with
 |none=>none
 |some (a,y)=>if has+c<4096/\y/65536<=1000000000/\a+1+cnt y<=m.s.ws.length/\(m.s.free<a+1\/a+1+cnt y<=m.s.free)/\1<=c then
   match m.s.node (Hd 2 (y/65536).toNat (has+c)) (m.s.words (a+1) (cnt y)) with
   |none=>none
   |some s2=>if s2.ws[a]?=some y/\s2.ws.length=m.s.ws.length/\s2.top+2+c<=s2.ws.length/\s2.free+c<=s2.ws.length then
     (Sto.pop { s2 with ws:=Go.splice s2.ws s2.free (s2.words (s2.top+2) c),free:=s2.free+c } (2+c)).bind fun s4=>(s4.push m.s.free).map fun s5=>{ m with s:=s5 }
    else none
  else none
def MSt.extend (m:MSt) (c:Nat):Option (Except Nat MSt):=
 match m.s.nodeAt 0 with
 |none=>none
 |some (_,y)=>aft (m.zdI (1+cnt y+c)) fun m1=>(m1.extended (cnt y) c).map .ok
theorem zvj{tp R:Nat}(hR:R≠0):∀ W:World,(Instr.slice 76 (.slice (some ⟨wb,tp,none⟩) (2+c) (R+2)) (some (.int .i64 2)) none none).run prog W=.ok (.slice (some ⟨wb,tp+2,none⟩) c R) W:=by
 intro W;rw[run_slice_l W 76 _ _ _ underlying76 .i64 2 (by omega) (by omega)];have e3:prog.elem 76=2:=by kernel_rfl
 rw[e3,sizeOf2];have e4:((2:Int)).toNat=2:=rfl;simp only[Result.andThen,sliced,e4,zAt,zzP,zbe];rw[if_neg (by omega),show 2+c-2=c by omega,show R+2-2=R by omega]
variable {m':MSt}
theorem zs2{m1:MSt}(h:MAt w mb wb fv m)(ha:m.s.nodeAt 0=some (a,y))(hn:m.zdI (1+cnt y+c)=some (.ok m1))(he:m1.extended (cnt y) c=some m'):
  Calls prog 255 #[.pointer (some ⟨mb,0,none⟩),.int .i64 c] w fun e w'=>Ends w mb wb fv (.ok m') e w':=by
 obtain ⟨hx,hh⟩:=Sto.zaP ha;obtain ⟨hy,aT,bE,aU⟩:=Sto.zaU hh;unfold MSt.extended at he;split at he
 ·cases he
 ·next a1 y1 gm=>
  split at he
  ·next hg=>
   split at he
   ·cases he
   ·next s2 bg=>
    obtain ⟨ws,hf,lo,fr,tp⟩:=s2;simp only at he;split at he
    ·next aF=>
     simp only[zyQ,zyX]at he;obtain ⟨s4,dW,s5,aM,rfl⟩:=he;obtain ⟨ee,sq⟩:=Sto.zaP gm;obtain ⟨hz,bq,aP,oR⟩:=Sto.zaU sq;have c0:=h.sat.c0;have cy:=h.sat.word hy;have eo:(a:Int)<(m.s.ws.length:Int):=by omega
     have CC:=zab (fun W:World=>za3 y W aT bE);rw[zh9 aT]at CC;have aN:=zf2 y;have CA:=zab (fun n:Nat=>zaA (d:=0) (h.drewN n).sat _ hx);have HH:=zab h;have CN:=zab (fun (W:World) (hW:MAt W mb wb fv m)=>zaW hW hn);simp only[zzq,zzJ]at CN;have CW:=zab (fun W:World=>zbw y1 W bq aP);obtain ⟨b,hb⟩:∃ b:Nat,y1/65536=b:=⟨(y1/65536).toNat,by omega⟩;rw[hb]at CW hg;rw[hb,zy2]at bg;have CH:=zab (fun W:World=>zbt 2 b (cnt y+c) W (by omega) (by omega) (by omega));simp only[zzq]at CH;obtain ⟨z,kk⟩:∃ z,Hd 2 b (cnt y+c)=z:=⟨_,rfl⟩;rw[kk]at CH bg;obtain ⟨L,hL⟩:∃ L,m1.s.ws.length=L:=⟨_,rfl⟩;have Gs:L<=1000000:=by have:=(zmx hn);have:=h.sat.len;omega
     have tD:ws.length=L:=by rw[<-hL];exact aF.2.1
     obtain ⟨R,hR⟩:∃ R,L=tp+(R+2):=⟨L-tp-2,by omega⟩;have rT:(c:Int)<=(R:Int):=by omega
     have rI:R≠0:=by omega
     have nI:(R:Int)<=1000000:=by omega
     have ak:fr+c<=L:=by omega
     have Aa:(a1:Int)<(L:Int):=by omega
     have dk:(Sto.words ⟨ws,hf,lo,fr,tp⟩ (tp+2) c).length=c:=Sto.zcR (by simp only;omega);have lK:∀ (j:Nat) x,(Sto.words ⟨ws,hf,lo,fr,tp⟩ (tp+2) c)[j]?=some x->ws[tp+2+j]?=some x:=fun j x hj=>(Sto.zd7 hj).2
     generalize Sto.words ⟨ws,hf,lo,fr,tp⟩ (tp+2) c=xs at dk lK dW;have mD:=zab lK;have HR:=zab hR;have yW:=zab ak;have jg:=zab tD;have HL:=zab hL;have eR:=zab ee;have HZ:=zab (And.intro hz (And.intro bq (And.intro aP hg.2.2.1)));have ue:=zab (And.intro bg hg.2.2.2.1);have eK:=zab aF;have kE:=zab dW;have je:=zab aM;have jj:(c:Int)<4096:=by omega
     have bH:=hg.2.2.2.2;generalize cnt y=k at *;have kj:(k:Int)<4096:=by omega
     clear h ha hx hy hh hn aT bE aU gm ee sq hz bq aP oR hg aF bg dW aM hb kk lK tD hL hR ak;go_enter func255,ntmps255
     go_wp2_with fail
     go_quiet ((first|(go_at_call 82;exact Calls.quiet_of (CA.o _))|(go_at_call 85;exact Calls.quiet_of_same (CC.o _))))
     have H1:=zab (HH.o.drewN nq);have F1:Hid (Fr (MB mb wb fv) w (w.drewN nq)):=zab ((Fr.refl _ _).drewN nq);generalize w.drewN nq=w1 at H1 F1;clear c0 cy;go_wp2_with fail
     refine (CN.o _ H1.o).mono ?_;rintro e w2 ⟨f2,rfl,h2⟩;have H2:=zab h2;have F2:=zab (F1.o.trans f2);clear h2 f2 CN;go_wp2_with fail
     refine (zaA (d:=0) H2.o.sat _ eR.o).mono ?_;rintro e w3 ⟨rfl,k3,bL⟩;have H3:Hid (MAt w3 mb wb fv m1):=zab (by rw[bL];exact H2.o.drewN k3);have F3:Hid (Fr (MB mb wb fv) w w3):=zab (by rw[bL];exact F2.o.drewN k3);clear bL;have c0:=H3.o.sat.c0;rw[HL.o]at c0;have cy:=H3.o.sat.word HZ.o.1;have uS:IntKind.i64.wrap ((k:Int)+(c:Int))=(k:Int)+(c:Int):=zbc _ (by omega) (by omega);go_wp2_with fail
     go_region_held3 (fun W=>W.cell? ⟨mb,0,none⟩=some (.slice (some ⟨wb,0,none⟩) L L)/\W.cell? ⟨wb,a1,none⟩=some (.int .i64 y1)) (first|go_keep|(refine ⟨?_,?_⟩ <;> assumption)) (first
      |(go_at_call 84;refine (CW.o _).mono ?_;rintro e w4 ⟨rfl,uR⟩;subst w4)
      |(go_at_call 75;refine (CH.o _).mono ?_;rintro e w4 ⟨rfl,uR⟩;subst w4)
      |(go_at_call 135;refine (zcA H3.o.sat.drew a1 y1 HZ.o.1 HZ.o.2.1 HZ.o.2.2.1 HZ.o.2.2.2).mono ?_;rintro e w5 ⟨rfl,k5,dK⟩;have H5:Hid (SAt w5 mb wb (zeu m1.o fv) m1.s):=zab (by rw[dK];exact H3.o.sat.drew.drewN k5);have F5:Hid (Fr (M2 mb wb) w3 w5):=zab (by rw[dK];exact (Fr.refl _ _).drew.drewN k5);have e0:w5.cell? ⟨mb,0,none⟩=some (.slice (some ⟨wb,0,none⟩) L L):=(by rw[H5.o.c0,HL.o]);have ey:=H5.o.word HZ.o.1;clear dK)
      |(go_at_call 74;refine (Sto.zqI H5.o ue.o.1 ue.o.2 HZ.o.2.2.2 (fun h0=>zbT (by have:=HZ.o.2.2.2;omega))).mono ?_;rintro e w6 ⟨rfl,h6,f6⟩;have H6:=zab h6;have F6:=zab (F5.o.trans f6);have g0:w6.cell? ⟨mb,0,none⟩=some (.slice (some ⟨wb,0,none⟩) L L):=(by rw[h6.c0];simp only;rw[jg.o]);have gy:=h6.word eK.o.1;clear h6 f6))
     all_goals
      clear c0 cy e0 ey g0 gy;have hR:=HR.o;have ak:=yW.o;have c0:w6.cell? ⟨mb,0,none⟩=some (.slice (some ⟨wb,0,none⟩) L L):=by rw[H6.o.c0];simp only;rw[jg.o]
      have c3:w6.cell? ⟨mb,3,none⟩=some (.int .i64 fr):=H6.o.c3;have CS:=zab (zeZ H6.o.drew (2+c) (by simp only;rw[jg.o];omega));simp only[zzq,zzJ,jg.o,zbT (show tp<L by omega),show L-tp=R+2 by omega]at CS;have aA:(fr:Int)<=(L:Int):=by omega
      have aw:(0:Int)<=(fr:Int):=by omega
      have aj:fr<L:=by omega
      have aH:¬ L=fr:=by omega
      have tC:IntKind.i64.wrap (2+(c:Int))=2+(c:Int):=zbc _ (by omega) (by omega);have aJ:fr+xs.length<=ws.length:=by rw[jg.o];omega
      have fZ:=zab aJ;have py:=zvj (wb:=wb) (tp:=tp) (c:=c) rI;clear hR aJ;go_wp2_with fail
      go_region_held3 (fun W=>W.cell? ⟨mb,0,none⟩=some (.slice (some ⟨wb,0,none⟩) L L)/\W.cell? ⟨mb,3,none⟩=some (.int .i64 fr)) (first|go_keep|(refine ⟨?_,?_⟩ <;> assumption)) (first
       |(go_at_call 136;refine CS.o.mono ?_;rintro e w7 ⟨rfl,k7,og⟩;have H7:Hid (SAt w7 mb wb (zeu m1.o fv) ⟨ws,hf,lo,fr,tp⟩):=zab (by rw[og];exact H6.o.drew.drewN k7);have F7:Hid (Fr (M2 mb wb) w3 w7):=zab (by rw[og];exact F6.o.drew.drewN k7);have d0:w7.cell? ⟨mb,0,none⟩=some (.slice (some ⟨wb,0,none⟩) L L):=(by rw[H7.o.c0];simp only;rw[jg.o]);have d3:w7.cell? ⟨mb,3,none⟩=some (.int .i64 fr):=H7.o.c3;clear og)
       |(refine za6 (by rfl) _ _ (by rfl) H7.o fr _ _ _ _ _ (by rfl) (by rfl) xs (by rw[dk];exact (zzV (by omega)).symm) (fun h0=>⟨_,rfl,fun j x hj=>by rw[zbe];exact H7.o.word (mD.o j x hj)⟩) fZ.o ?_;intro w8 h8 f8;have H8:=zab h8;have F8:=zab (F7.o.trans f8);have e0:w8.cell? ⟨mb,0,none⟩=some (.slice (some ⟨wb,0,none⟩) L L):=(by rw[h8.c0];simp only;rw[zaY _ _ _ fZ.o,jg.o]);have e3:w8.cell? ⟨mb,3,none⟩=some (.int .i64 fr):=h8.c3;clear h8 f8))
      all_goals
       clear c0 c3 d0 d3 e0 e3 py aH aj aA aw;have c3:w8.cell? ⟨mb,3,none⟩=some (.int .i64 fr):=H8.o.c3;have cf:=H8.o.blk.frozen 3;have ak:=yW.o;have Fu:IntKind.i64.wrap ((fr:Int)+(c:Int))=(fr:Int)+(c:Int):=zbc _ (by omega) (by omega);have H9:=zab (H8.o.zjP (fr+c) (by omega));have F9:Hid (Fr (M2 mb wb) w3 (w8.setCell ⟨mb,3,none⟩ (.int .i64 ((fr+c:Nat):Int)))):=zab (F8.o.set _ _ (.inl (.inl rfl)));have yI:=zab (fun (W:World) (hW:SAt W mb wb (zeu m1.o fv) _)=>Sto.zbQ hW kE.o);simp only[zzq,zzJ]at yI H9 F9;clear ak;go_wp2_with fail
       generalize w8.setCell ⟨mb,3,none⟩ (.int .i64 ((fr:Int)+(c:Int)))=w9 at H9 F9 ⊢;clear c3 cf;go_wp2_with fail
       refine (yI.o _ H9.o).mono ?_;rintro e pB ⟨rfl,uz,f10⟩;have Bz:=zab uz;have Br:=zab (F9.o.trans f10);clear uz f10;go_wp2_with fail
       refine (Sto.zb5 Bz.o je.o).mono ?_;rintro e yE ⟨rfl,zA,f11⟩;have ot:=zab zA;have mo:=zab (Br.o.trans f11);clear zA f11;go_wp2_with fail
       first|go_end0|refine bodyPost_ret (results_none rfl _ _ _) rfl ?_
       exact ⟨F3.o.trans (mo.o.zc9 fv),rfl,H3.o.fr2 ot.o mo.o⟩
    ·cases he
  ·cases he
variable {k:Nat}
theorem zrr(h:MAt w mb wb fv m)(jl:c<=1000000)(ha:m.s.nodeAt 0=some (a,y))(hn:m.zdI (1+cnt y+c)=some (.error k)):
  Calls prog 255 #[.pointer (some ⟨mb,0,none⟩),.int .i64 c] w fun e w'=>Ends w mb wb fv (.error k) e w':=by
 obtain ⟨hx,hh⟩:=Sto.zaP ha;obtain ⟨hy,aT,bE,aU⟩:=Sto.zaU hh;have c0:=h.sat.c0;have cy:=h.sat.word hy;have eo:(a:Int)<(m.s.ws.length:Int):=by omega
 have CC:=zab (fun W:World=>za3 y W aT bE);rw[zh9 aT]at CC;have aN:=zf2 y;have CA:=zab (fun n:Nat=>zaA (d:=0) (h.drewN n).sat _ hx);have HH:=zab h;have CN:=zab (fun (W:World) (hW:MAt W mb wb fv m)=>zaW hW hn);simp only[zzq,zzJ]at CN;generalize cnt y=k at *;have kj:(k:Int)<4096:=by omega
 have jj:(c:Int)<=1000000:=by omega
 clear h ha hx hy hh hn aT bE aU jl;go_enter func255,ntmps255
 go_wp2_with fail
 go_quiet ((first|(go_at_call 82;exact Calls.quiet_of (CA.o _))|(go_at_call 85;exact Calls.quiet_of_same (CC.o _))))
 have H1:=zab (HH.o.drewN nq);have F1:Hid (Fr (MB mb wb fv) w (w.drewN nq)):=zab ((Fr.refl _ _).drewN nq);generalize w.drewN nq=w1 at H1 F1;clear c0 cy;go_wp2_with fail
 refine (CN.o _ H1.o).mono ?_;rintro e w2 ⟨f2,rfl,h2⟩;exact ⟨rfl,F1.o.trans f2,rfl,h2⟩
theorem zrq(h:MAt w mb wb fv m)(jl:c<=1000000)(hb:m.extend c=some r):
  Calls prog 255 #[.pointer (some ⟨mb,0,none⟩),.int .i64 c] w fun e w'=>Ends w mb wb fv r e w':=by
 unfold MSt.extend at hb;split at hb
 ·cases hb
 ·next a y ha=>
  unfold aft at hb;split at hb
  ·cases hb
  ·next k hn=>obtain rfl:=zyU hb;exact zrr h jl ha hn
  ·next m1 hn=>
   simp only[zyX]at hb;obtain ⟨m2,h2,rfl⟩:=hb;exact zs2 h ha hn h2
theorem zqH(h:m.zdI c=some (.ok m')):m'.o=m.o:=by
 unfold MSt.zdI at h;split at h
 ·cases h;rfl
 ·split at h
  ·cases h
  ·split at h
   ·cases h
   ·cases h;rfl
theorem zqt(h:m.extend c=some (.ok m')):m'.o=m.o:=by
 unfold MSt.extend at h;split at h
 ·cases h
 ·unfold aft at h;split at h
  ·cases h
  ·cases h
  ·next m1 hn=>
   simp only[zyX]at h;obtain ⟨m2,h2,h3⟩:=h;cases h3;rw[<-zqH hn];unfold MSt.extended at h2;split at h2
   ·cases h2
   ·split at h2
    ·split at h2
     ·cases h2
     ·split at h2
      ·simp only[zyQ,zyX]at h2;obtain ⟨s4,_,s5,_,rfl⟩:=h2;rfl
      ·cases h2
    ·cases h2
def EndsB (w:World) (mb wb:Nat) (fv:Value) (r:Except Nat (Bool × MSt)) (e:Ending) (w':World):Prop:=
 Fr (MB mb wb fv) w w'/\match r with
 |.ok q=>e=.returned (.bool q.1)/\MAt w' mb wb fv q.2
 |.error k=>e=up k/\∃ m',MAt w' mb wb fv m'
def MSt.za5 (m:MSt) (sl:List Nat) (c:Nat):Option (Except Nat (Bool × MSt)):=
 match m.s.nodeAt 0 with
 |none=>none
 |some (a,_)=>
  match m.s.zfJ sl a with
  |none=>none
  |some l=>if l<0 then some (.error 3) else
   if (c:Int)<l then (match m.extend c with|none=>none|some (.error k)=>some (.error k)|some (.ok m')=>some (.ok (false,m')))
   else if 2000000<c then none
   else (match m.call l.toNat (c-l.toNat) with|none=>none|some (.error k)=>some (.error k)|some (.ok m')=>some (.ok (true,m')))
variable {sl:List Nat}
theorem zvL{pv:Value}(hB:BAt w mb wb fv pv sl){s:Sto}{l:Int}(hl:s.zfJ sl a=some l):l<=1000000:=by
 obtain ⟨_,_,_,_,_,h4⟩:=hB;unfold Sto.zfJ at hl;split at hl
 ·cases hl
 ·split at hl
  ·cases hl
  ·split at hl
   ·split at hl
    ·cases hl
    ·next n hn=>
     obtain rfl:=zyU hl;have:=(h4 _ n hn).1;omega
   ·obtain rfl:=zyU hl;omega
theorem zsv{r:Except Nat (Bool × MSt)}(h:MAt w mb wb fv m)(hB:BAt w mb wb fv m.o.pb sl)(hb:m.za5 sl c=some r)(jl:c<=1000000000):
  Calls prog 205 #[.pointer (some ⟨mb,0,none⟩),.int .i64 c] w fun e w'=>EndsB w mb wb fv r e w':=by
 unfold MSt.za5 at hb;split at hb
 ·cases hb
 ·next a y ha=>
  obtain ⟨hx,hh⟩:=Sto.zaP ha;split at hb
  ·cases hb
  ·next l hl=>
   have CA:=zab (zaA (d:=0) h.sat _ hx);have CL:=zab (fun (W:World) (hW:MAt W mb wb fv m) (rM:BAt W mb wb fv m.o.pb sl)=>zjp hW rM hl);have HH:=zab h;have HB:=zab hB;have o5:l<=1000000:=zvL hB hl;split at hb
   ·next dV=>
    obtain rfl:=zyU hb;clear h hB ha hx hh hl;go_enter func205,ntmps205
    go_wp2_with fail
    refine CA.o.mono ?_;rintro e w1 ⟨rfl,k1,aD⟩;have H1:Hid (MAt w1 mb wb fv m):=zab (by rw[aD];exact HH.o.drewN k1);have F1:Hid (Fr (MB mb wb fv) w w1):=zab (by rw[aD];exact (Fr.refl _ _).drewN k1);clear aD;go_wp2_with fail
    refine (CL.o _ H1.o (HB.o.fr F1.o)).mono ?_;rintro e w2 ⟨rfl,k2,aB⟩;have H2:Hid (MAt w2 mb wb fv m):=zab (by rw[aB];exact H1.o.drewN k2);have F2:Hid (Fr (MB mb wb fv) w w2):=zab (by rw[aB];exact F1.o.drewN k2);clear aB;go_wp2_with fail
    refine (zce 3 _).mono ?_;rintro e w4 ⟨rfl,uR⟩;subst w4;exact ⟨rfl,F2.o,rfl,_,H2.o⟩
   ·next dV=>
    obtain ⟨n,rfl⟩:∃ n:Nat,l=n:=⟨l.toNat,by omega⟩;rw[zy2]at hb;split at hb
    ·next aj=>
     have xp:c<=1000000:=by omega
     obtain ⟨q,hq⟩:∃ q,m.extend c=some q:=by
      cases hq:m.extend c with
      |none=>rw[hq]at hb;cases hb
      |some q=>exact ⟨q,rfl⟩
     rw[hq]at hb;have CE:=zab (fun (W:World) (hW:MAt W mb wb fv m)=>zrq hW xp hq);clear h hB ha hx hh hl dV;have lq:¬ (n:Int)<0:=by omega
     go_enter func205,ntmps205
     go_wp2_with fail
     refine CA.o.mono ?_;rintro e w1 ⟨rfl,k1,aD⟩;have H1:Hid (MAt w1 mb wb fv m):=zab (by rw[aD];exact HH.o.drewN k1);have F1:Hid (Fr (MB mb wb fv) w w1):=zab (by rw[aD];exact (Fr.refl _ _).drewN k1);clear aD;go_wp2_with fail
     refine (CL.o _ H1.o (HB.o.fr F1.o)).mono ?_;rintro e w2 ⟨rfl,k2,aB⟩;have H2:Hid (MAt w2 mb wb fv m):=zab (by rw[aB];exact H1.o.drewN k2);have F2:Hid (Fr (MB mb wb fv) w w2):=zab (by rw[aB];exact F1.o.drewN k2);clear aB;go_wp2_with fail
     refine (CE.o _ H2.o).mono ?_;cases q with
     |error k=>
      obtain rfl:=zyU hb;rintro e w3 ⟨f3,rfl,h3⟩;exact ⟨rfl,F2.o.trans f3,rfl,h3⟩
     |ok m'=>
      obtain rfl:=zyU hb;rintro e w3 ⟨f3,rfl,h3⟩;have F3:=zab (F2.o.trans f3);have H3:=zab h3;clear f3 h3 hb;go_wp2_with fail
      go_ret
      exact ⟨F3.o,rfl,H3.o⟩
    ·next aj=>
     split at hb
     ·cases hb
     ·next Eg=>
      obtain ⟨q,hq⟩:∃ q,m.call n (c-n)=some q:=by
       cases hq:m.call n (c-n) with
       |none=>rw[hq]at hb;cases hb
       |some q=>exact ⟨q,rfl⟩
      rw[hq]at hb;obtain ⟨d,hd⟩:∃ d,c-n=d:=⟨_,rfl⟩;rw[hd]at hq;have pg:IntKind.i64.wrap ((c:Int)-(n:Int))=(d:Int):=by rw[zbc _ (by omega) (by omega)];omega
      have CE:=zab (fun (W:World) (hW:MAt W mb wb fv m)=>zve hW hq);clear h hB ha hx hh hl dV;have lq:¬ (n:Int)<0:=by omega
      clear hd;go_enter func205,ntmps205
      go_wp2_with fail
      refine CA.o.mono ?_;rintro e w1 ⟨rfl,k1,aD⟩;have H1:Hid (MAt w1 mb wb fv m):=zab (by rw[aD];exact HH.o.drewN k1);have F1:Hid (Fr (MB mb wb fv) w w1):=zab (by rw[aD];exact (Fr.refl _ _).drewN k1);clear aD;go_wp2_with fail
      refine (CL.o _ H1.o (HB.o.fr F1.o)).mono ?_;rintro e w2 ⟨rfl,k2,aB⟩;have H2:Hid (MAt w2 mb wb fv m):=zab (by rw[aB];exact H1.o.drewN k2);have F2:Hid (Fr (MB mb wb fv) w w2):=zab (by rw[aB];exact F1.o.drewN k2);clear aB;go_wp2_with fail
      refine (CE.o _ H2.o).mono ?_;cases q with
      |error k=>
       obtain rfl:=zyU hb;rintro e w3 ⟨f3,rfl,h3⟩;exact ⟨rfl,F2.o.trans f3,rfl,h3⟩
      |ok m'=>
       obtain rfl:=zyU hb;rintro e w3 ⟨f3,rfl,h3⟩;have F3:=zab (F2.o.trans f3);have H3:=zab h3;clear f3 h3 hb;go_wp2_with fail
       go_ret
       exact ⟨F3.o,rfl,H3.o⟩
def waits (x:Int):Option (Nat × Nat):=if -4000000000<=x/\x<0 then some (((-x-1)%4).toNat,((-x-1)/4).toNat) else none
theorem zuN{x:Int}(h:waits x=some (k,a)):x=Mk k a/\k<4/\a<=1000000000:=by
 unfold waits at h;split at h
 ·simp only[zyP,zzL]at h;obtain ⟨rfl,rfl⟩:=h;unfold Mk;omega
 ·cases h
def MSt.za1 (sl:List Nat):Nat->MSt->Option (Except Nat MSt)
 |0,_=>none
 |g+1,m=>
  if m.s.low+m.s.half<=m.s.top+1 then some (.ok { m with o:={ m.o with next:=-1 } }) else
  match m.s.ws[m.s.top+1]? with
  |none=>none
  |some x=>
   match waits x with
   |none=>none
   |some (k,a)=>
    if k=0 then (match m.s.update with|none=>none|some s'=>MSt.za1 sl g { m with s:=s' })
    else if k=1 then (match m.s.ws[m.s.top]? with
     |none=>none
     |some v=>(Sto.pop { m.s with ws:=m.s.ws.set (m.s.top+1) v } 1).map fun s'=>.ok { m with s:=s',o:={ m.o with next:=a } })
    else if k=2 then (match m.za5 sl a with
     |none=>none
     |some (.error j)=>some (.error j)
     |some (.ok q)=>if q.1=true then some (.ok q.2) else MSt.za1 sl g q.2)
    else none
theorem zra(h:m.za5 sl c=some (.ok (false,m'))):m'.o=m.o:=by
 unfold MSt.za5 at h;split at h
 ·cases h
 ·split at h
  ·cases h
  ·split at h
   ·cases h
   ·split at h
    ·split at h
     ·cases h
     ·cases h
     ·next hx=>cases h;exact zqt hx
    ·split at h
     ·cases h
     ·split at h
      ·cases h
      ·cases h
      ·cases h
theorem zsL{tp:Nat}:∀ (W:World) (v:Value),(W.setCell ⟨wb,tp+1,none⟩ v).cell? ⟨wb,tp,none⟩=W.cell? ⟨wb,tp,none⟩:=
 fun W v=>by apply World.cell?_setCell_other;simp
theorem zlq{g:Nat}(h:MAt w mb wb fv m)(hB:BAt w mb wb fv m.o.pb sl)(hb:MSt.za1 sl g m=some r):
  Calls prog 129 #[.pointer (some ⟨mb,0,none⟩)] w fun e w'=>Ends w mb wb fv r e w':=by
 have HH:=zab h;have HB:=zab hB;have HR:=zab hb;clear h hB hb;go_enter func129,ntmps129
 go_wp2_with fail
 go_loopg [2] g (fun gk _ wr=>∃ q:MSt,MAt wr mb wb fv q/\q.o.pb=m.o.pb/\MSt.za1 sl gk q=some r/\Fr (MB mb wb fv) w wr)
 case atStart=>exact ⟨m,HH.o,rfl,HR.o,Fr.refl _ _⟩
 case round=>
  obtain ⟨q,hq,iN,hg,ak⟩:=hrel;cases gk with
  |zero=>cases hg
  |succ k=>
   obtain ⟨⟨ws,hf,lo,fr,tp⟩,o,fns⟩:=q;rw[MSt.za1]at hg;simp only at hg iN;have hlen:ws.length<=1000000:=hq.sat.len;have tj:tp<=1000000:=hq.sat.top;have o5:lo<=1000000:=hq.sat.low;have Ez:hf<=1000000:=hq.sat.half;have c0:=hq.sat.c0;have c4:=hq.sat.c4;simp only at c0 c4;have CE:=zab (fun n:Nat=>zhJ (hq.drewN n).sat);simp only[zzq]at CE;have HQ:=zab hq;have cY:=zab ak;have lV:=zab iN;have uS:IntKind.i64.wrap ((tp:Int)+1)=(tp:Int)+1:=zbc _ (by omega) (by omega);clear hq ak iN;split at hg
   ·next cJ=>
    have r8:¬ ((tp:Int)+1<(lo:Int)+(hf:Int)):=by omega
    obtain rfl:=zyU hg;clear hg cJ;go_wp2_with fail
    go_quiet ((go_at_call 78;exact Calls.quiet_of (CE.o _)))
    have H1:=zab (HQ.o.drewN nq);have F1:=zab (cY.o.drewN nq);generalize wr.drewN nq=w1 at H1 F1;clear c0 c4;have d10:=H1.o.sat.c10;have df:=H1.o.sat.blk.frozen 10;go_wp2_with fail
    first|go_end0|refine bodyPost_ret (results_none rfl _ _ _) rfl ?_
    have f2:Fr (M2 mb wb) w1 (w1.setCell ⟨mb,10,none⟩ (.int .i64 (-1))):=(Fr.refl _ _).set _ _ (.inl (.inl rfl));exact ⟨F1.o.trans (f2.zc9 fv),rfl,H1.o.sat.zgs (-1),H1.o.fat.fr f2,H1.o.fl,H1.o.fuel⟩
   ·next cJ=>
    have r8:(tp:Int)+1<(lo:Int)+(hf:Int):=by omega
    split at hg
    ·cases hg
    ·next x hx=>
     split at hg
     ·cases hg
     ·next k1 a hw=>
      obtain ⟨rfl,kj,xh⟩:=zuN hw;have dk:=(zyL.1 hx).1;have CK:=zab (fun W:World=>zoV k1 a W kj xh);have CW:=zab (fun W:World=>znd k1 a W kj xh);obtain ⟨z,hz⟩:∃ z,Mk k1 a=z:=⟨_,rfl⟩;rw[hz]at CK CW hx;have cx:wr.cell? ⟨wb,tp+1,none⟩=some (.int .i64 z):=HQ.o.sat.word hx;have aA:(tp:Int)+1<(ws.length:Int):=by omega
      have kf:(0:Int)<=(tp:Int)+1:=by omega
      have HX:=zab hx;clear hw hz cJ hx;go_wp2_with fail
      go_quiet ((go_at_call 78;exact Calls.quiet_of (CE.o _)))
      have H1:=zab (HQ.o.drewN nq);have F1:=zab (cY.o.drewN nq);generalize wr.drewN nq=w1 at H1 F1;clear c0 c4 cx;have c0:=H1.o.sat.c0;have c4:=H1.o.sat.c4;have cx:w1.cell? ⟨wb,tp+1,none⟩=some (.int .i64 z):=H1.o.sat.word HX.o;simp only at c0 c4;go_wp2_with fail
      go_quiet (fail)
      have H2:=zab (H1.o.drewN nq);have F2:=zab (F1.o.drewN nq);generalize w1.drewN nq=w2 at H2 F2;clear c0 c4 cx;go_wp2_with fail
      refine (CK.o _).mono ?_;rintro e w3 ⟨rfl,bL⟩;subst w3;split at hg
      ·next hk=>
       subst hk;split at hg
       ·cases hg
       ·next s' hu=>
        have HU:=zab hu;have HG:=zab hg;clear hu hg;go_wp2_with fail
        refine (zsh H2.o.sat HU.o).mono ?_;rintro e w4 ⟨rfl,h4,f4⟩;have H4:=zab h4;have F4:=zab f4;clear h4 f4;go_wp2_with fail
        go_roundg k
        case measure=>omega
        case rel=>exact ⟨_,H2.o.fr2 H4.o F4.o,lV.o,HG.o,F2.o.trans (F4.o.zc9 fv)⟩
      ·next dF=>
       split at hg
       ·next hk=>
        subst hk;split at hg
        ·cases hg
        ·next v hv=>
         simp only[zyX]at hg;obtain ⟨s',jt,rfl⟩:=hg;have kE:=zab jt;have c0:=H2.o.sat.c0;have c4:=H2.o.sat.c4;have cv:w2.cell? ⟨wb,tp,none⟩=some (.int .i64 v):=H2.o.sat.word hv;have cx:w2.cell? ⟨wb,tp+1,none⟩=some (.int .i64 z):=H2.o.sat.word HX.o;have cf:=H2.o.sat.zeC.frozen (tp+1);have fP:=zcj H2.o.sat.ne;have sM:=zsL (wb:=wb) (tp:=tp);have dJ:=(zyL.1 hv).1;have bD:(tp:Int)<(ws.length:Int):=by omega
         simp only at c0 c4;clear jt hv;go_wp2_with fail
         go_region_held3 (fun W=>W.cell? ⟨mb,0,none⟩=some (.slice (some ⟨wb,0,none⟩) ws.length ws.length)/\W.cell? ⟨mb,4,none⟩=some (.int .i64 tp)/\W.cell? ⟨wb,tp,none⟩=some (.int .i64 v)) (first|go_keep|(refine ⟨?_,?_,?_⟩ <;> first|assumption|(rw[fP];assumption)|(rw[sM];assumption))) (fail)
         all_goals
          have H5:=zab (H2.o.sat.zcB (tp+1) v).drew;have F5:Hid (Fr (M2 mb wb) w2 ((w2.setCell ⟨wb,tp+1,none⟩ (.int .i64 v)).drew)):=zab ((Fr.refl _ _).set _ _ (.inl (.inr rfl))).drew;generalize (w2.setCell ⟨wb,tp+1,none⟩ (.int .i64 v)).drew=w5 at H5 F5;clear c0 c4 cv cx cf fP sM;go_wp2_with fail
          refine (Sto.zbQ H5.o kE.o).mono ?_;rintro e w6 ⟨rfl,h6,f6⟩;have H6:=zab h6;have F6:=zab (F5.o.trans f6);clear h6 f6;go_wp2_with fail
          refine (CW.o _).mono ?_;rintro e w7 ⟨rfl,og⟩;subst w7;have d10:=H6.o.c10;have df:=H6.o.blk.frozen 10;go_wp2_with fail
          first|go_end0|refine bodyPost_ret (results_none rfl _ _ _) rfl ?_
          have f7:Fr (M2 mb wb) w2 (w6.setCell ⟨mb,10,none⟩ (.int .i64 a)):=F6.o.set _ _ (.inl (.inl rfl));exact ⟨F2.o.trans (f7.zc9 fv),rfl,H6.o.zgs a,H2.o.fat.fr f7,H2.o.fl,H2.o.fuel⟩
       ·next cK=>
        split at hg
        ·next hk=>
         subst hk;have iN:=lV.o;obtain ⟨d,hd⟩:∃ d,(⟨⟨ws,hf,lo,fr,tp⟩,o,fns⟩:MSt).za5 sl a=some d:=by
          cases hd:(⟨⟨ws,hf,lo,fr,tp⟩,o,fns⟩:MSt).za5 sl a with
          |none=>rw[hd]at hg;cases hg
          |some d=>exact ⟨d,rfl⟩
         rw[hd]at hg;have gA:Hid (BAt w2 mb wb fv o.pb sl):=zab (by rw[iN];exact HB.o.fr F2.o);have CP:=zab (zsv H2.o gA.o hd xh);have HD:=zab hd;clear hd iN;go_wp2_with fail
         refine (CW.o _).mono ?_;rintro e w3 ⟨rfl,bL⟩;subst w3;go_wp2_with fail
         refine CP.o.mono ?_;cases d with
         |error j=>
          obtain rfl:=zyU hg;rintro e w4 ⟨f4,rfl,h4⟩;exact ⟨rfl,F2.o.trans f4,rfl,h4⟩
         |ok q=>
          obtain ⟨b,m'⟩:=q;rintro e w4 ⟨f4,rfl,h4⟩;have F4:=zab (F2.o.trans f4);have H4:=zab h4;clear f4 h4;cases b with
          |true=>
           obtain rfl:=zyU hg;go_wp2_with fail
           first|go_end0|refine bodyPost_ret (results_none rfl _ _ _) rfl ?_
           exact ⟨F4.o,rfl,H4.o⟩
          |false=>
           have HG:Hid (MSt.za1 sl k m'=some r):=zab (by simpa using hg);have HO:=zab (zra HD.o);clear hg;go_wp2_with fail
           go_roundg k
           case measure=>omega
           case rel=>exact ⟨_,H4.o,by rw[HO.o];exact lV.o,HG.o,F4.o⟩
        ·cases hg
def MSt.ztg (m:MSt):Nat:=m.s.low+m.s.half+1-m.s.top
def MSt.zcy (m:MSt) (sl:List Nat) (a:Nat):Option (Except Nat MSt):=
 match m.s.head a with
 |none=>none
 |some y=>if y%16=3 then some (.error 5) else
  match m.s.zfJ sl a with
  |none=>none
  |some l=>if l=0 then m.zdy else MSt.za1 sl m.ztg m
def MSt.enter (m:MSt) (sl:List Nat):Option (Except Nat MSt):=
 match m.s.nodeAt 0 with
 |none=>none
 |some (a,y)=>if y%16=4 then (if m.s.ws.length<m.s.top then none else MSt.zcy { m with s:={ m.s with ws:=m.s.ws.set m.s.top (y/65536) } } sl (y/65536).toNat) else m.zcy sl a
theorem znM(h:MAt w mb wb fv m)(hB:BAt w mb wb fv m.o.pb sl)(hb:m.enter sl=some r):
  Calls prog 77 #[.pointer (some ⟨mb,0,none⟩)] w fun e w'=>Ends w mb wb fv r e w':=by
 unfold MSt.enter at hb;split at hb
 ·cases hb
 ·next a y ha=>
  obtain ⟨hx,hh⟩:=Sto.zaP ha;obtain ⟨hy,aT,bE,aU⟩:=Sto.zaU hh;have CA:=zab (zaA (d:=0) h.sat _ hx);have CK:=zab (fun W:World=>za4 y W aT bE);have HH:=zab h;have HB:=zab hB;have HY:=zab hy;have eo:(a:Int)<(m.s.ws.length:Int):=by omega
  have hlen:m.s.ws.length<=1000000:=h.sat.len;split at hb
  ·next hk=>
   split at hb
   ·cases hb
   ·next aj=>
    have CW:=zab (fun W:World=>zbw y W aT bE);rw[hk]at CK;obtain ⟨b,iC⟩:∃ b:Nat,y/65536=b:=⟨(y/65536).toNat,by omega⟩;rw[iC]at CW hb;rw[zy2]at hb;have cu:=(zyL.1 hx).1;have Fc:(m.s.top:Int)<(m.s.ws.length:Int):=by omega
    have Dc:Hid (m.s.ws[m.s.top]?=some (a:Int)):=zab hx;clear h hB ha hx hh hy aU aT bE hk iC;go_enter func77,ntmps77
    go_wp2_with fail
    refine CA.o.mono ?_;rintro e w1 ⟨rfl,k1,aD⟩;have H1:Hid (MAt w1 mb wb fv m):=zab (by rw[aD];exact HH.o.drewN k1);have F1:Hid (Fr (MB mb wb fv) w w1):=zab (by rw[aD];exact (Fr.refl _ _).drewN k1);clear aD;have c0:=H1.o.sat.c0;have cy:=H1.o.sat.word HY.o;go_wp2_with fail
    refine (CK.o _).mono ?_;rintro e w2 ⟨rfl,aB⟩;subst w2;go_wp2_with fail
    refine (CW.o _).mono ?_;rintro e w2 ⟨rfl,aB⟩;subst w2;clear cy;have c4:=H1.o.sat.c4;have ct:=H1.o.sat.word Dc.o;have cf:=H1.o.sat.zeC.frozen m.s.top;have fP:=zcj H1.o.sat.ne;go_wp2_with fail
    go_region_held3 (fun W=>W.cell? ⟨mb,0,none⟩=some (.slice (some ⟨wb,0,none⟩) m.s.ws.length m.s.ws.length)/\W.cell? ⟨mb,4,none⟩=some (.int .i64 m.s.top)) (go_keep) (fail)
    all_goals
     have H5:=zab (H1.o.sat.zcB m.s.top b).drew;have F5:Hid (Fr (M2 mb wb) w1 ((w1.setCell ⟨wb,m.s.top,none⟩ (.int .i64 b)).drew)):=zab ((Fr.refl _ _).set _ _ (.inl (.inr rfl))).drew;generalize (w1.setCell ⟨wb,m.s.top,none⟩ (.int .i64 b)).drew=w3 at H5 F5;have H3:=zab (H1.o.fr2 H5.o F5.o);have F3:=zab (F1.o.trans (F5.o.zc9 fv));clear c0 c4 ct cf fP H5 F5;have pD:=HB;obtain ⟨m2,jo⟩:∃ m2:MSt,({ m with s:={ m.s with ws:=m.s.ws.set m.s.top (b:Int) } }:MSt)=m2:=⟨_,rfl⟩;have jb:m2.o=m.o:=by rw[<-jo]
     rw[<-jb]at pD;rw[jo]at hb H3;clear jo jb;unfold MSt.zcy at hb;split at hb
     ·cases hb
     ·next z hz=>
      obtain ⟨tH,bq,aP,pr⟩:=Sto.zaU hz;have ml:=zab (fun W:World=>za4 z W bq aP);have yp:(b:Int)<((m2).s.ws.length:Int):=by omega
      have HZ:=zab tH;clear hz tH bq aP pr;split at hb
      ·next dz=>
       obtain rfl:=zyU hb;rw[dz]at ml;clear hb dz;go_wp2_with fail
       go_loopg [33] ((m2).o.fuel+1) (fun gk _ wr=>∃ q:MSt,MAt wr mb wb fv q/\q.s=(m2).s/\q.o.fuel+1=gk/\Fr (MB mb wb fv) w wr)
       case atStart=>exact ⟨m2,H3.o,rfl,rfl,F3.o⟩
       case round=>
        obtain ⟨q,hq,hs,hg,ak⟩:=hrel;have c0:=hq.sat.c0;rw[hs]at c0;have cz:=hq.sat.word (by rw[hs];exact HZ.o);have HQ:=zab hq;have HS:=zab hs;have HG:=zab hg;have cY:=zab ak;clear hq hs hg ak;go_wp2_with fail
        refine (ml.o _).mono ?_;rintro e w5 ⟨rfl,dK⟩;subst w5;clear c0 cz;go_wp2_with fail
        refine (zl7 HQ.o).mono ?_;unfold MSt.zsJ;split
        ·rintro e w6 ⟨f6,rfl,h6⟩;exact ⟨rfl,cY.o.trans f6,rfl,h6⟩
        ·next aH=>
         have uf:=zab aH;clear aH;rintro e w6 ⟨f6,rfl,h6⟩;have H6:=zab h6;have F6:=zab (cY.o.trans f6);clear f6 h6;go_wp2_with fail
         go_roundg (gk-1)
         case measure=>have:=HG.o;omega
         case rel=>exact ⟨_,H6.o,HS.o,by have:=HG.o;have:=uf.o;simp only;omega,F6.o⟩
      ·next dz=>
       have lj:(z%16 == 3)=false:=by rw[beq_eq_false_iff_ne];exact dz
       generalize z%16=kz at ml lj dz;split at hb
       ·cases hb
       ·next l hl=>
        have CL:=zab (fun (W:World) (hW:MAt W mb wb fv (m2)) (rM:BAt W mb wb fv (m2).o.pb sl)=>zjp hW rM hl);clear hl;go_wp2_with fail
        go_loopg [33] 1 (fun _ _ wr=>MAt wr mb wb fv (m2)/\Fr (MB mb wb fv) w wr)
        case atStart=>exact ⟨H3.o,F3.o⟩
        case round=>
         obtain ⟨hq,ak⟩:=hrel;have c0:=hq.sat.c0;have cz:=hq.sat.word HZ.o;have HQ:=zab hq;have cY:=zab ak;clear hq ak;go_wp2_with fail
         refine (ml.o _).mono ?_;rintro e w5 ⟨rfl,dK⟩;subst w5;clear c0 cz;go_wp2_with fail
         refine (CL.o _ HQ.o (pD.o.fr cY.o)).mono ?_;rintro e w6 ⟨rfl,k6,oe⟩;have H6:Hid (MAt w6 mb wb fv (m2)):=zab (by rw[oe];exact HQ.o.drewN k6);have F6:Hid (Fr (MB mb wb fv) w w6):=zab (by rw[oe];exact cY.o.drewN k6);clear oe;split at hb
         ·next da=>
          subst da;have CB:=zab (zns H6.o hb);clear hb;go_wp2_with fail
          refine CB.o.mono ?_;cases r with
          |error j=>
           rintro e w7 ⟨f7,rfl,h7⟩;exact ⟨rfl,F6.o.trans f7,rfl,h7⟩
          |ok m'=>
           rintro e w7 ⟨f7,rfl,h7⟩;have H7:=zab h7;have F7:=zab (F6.o.trans f7);clear f7 h7;go_wp2_with fail
           first|go_end0|refine bodyPost_ret (results_none rfl _ _ _) rfl ?_
           exact ⟨F7.o,rfl,H7.o⟩
         ·next da=>
          have xG:(l == 0)=false:=by rw[beq_eq_false_iff_ne];exact da
          have CB:=zab (zlq H6.o (pD.o.fr F6.o) hb);clear hb;go_wp2_with fail
          refine CB.o.mono ?_;cases r with
          |error j=>
           rintro e w7 ⟨f7,rfl,h7⟩;exact ⟨rfl,F6.o.trans f7,rfl,h7⟩
          |ok m'=>
           rintro e w7 ⟨f7,rfl,h7⟩;have H7:=zab h7;have F7:=zab (F6.o.trans f7);clear f7 h7;go_wp2_with fail
           first|go_end0|refine bodyPost_ret (results_none rfl _ _ _) rfl ?_
           exact ⟨F7.o,rfl,H7.o⟩
  ·next hk=>
   have kj:(y%16 == 4)=false:=by rw[beq_eq_false_iff_ne];exact hk
   generalize y%16=ky at CK kj hk;clear h hB ha hx hh hy aU aT bE hk;go_enter func77,ntmps77
   go_wp2_with fail
   refine CA.o.mono ?_;rintro e w1 ⟨rfl,k1,aD⟩;have H1:Hid (MAt w1 mb wb fv m):=zab (by rw[aD];exact HH.o.drewN k1);have F1:Hid (Fr (MB mb wb fv) w w1):=zab (by rw[aD];exact (Fr.refl _ _).drewN k1);clear aD;have c0:=H1.o.sat.c0;have cy:=H1.o.sat.word HY.o;go_wp2_with fail
   refine (CK.o _).mono ?_;rintro e w2 ⟨rfl,aB⟩;subst w2;clear c0 cy;have pD:=HB;have H3:=H1;have F3:=F1;unfold MSt.zcy at hb;split at hb
   ·cases hb
   ·next z hz=>
    obtain ⟨tH,bq,aP,pr⟩:=Sto.zaU hz;have ml:=zab (fun W:World=>za4 z W bq aP);have yp:(a:Int)<((m).s.ws.length:Int):=by omega
    have HZ:=zab tH;clear hz tH bq aP pr;split at hb
    ·next dz=>
     obtain rfl:=zyU hb;rw[dz]at ml;clear hb dz;go_wp2_with fail
     go_loopg [33] ((m).o.fuel+1) (fun gk _ wr=>∃ q:MSt,MAt wr mb wb fv q/\q.s=(m).s/\q.o.fuel+1=gk/\Fr (MB mb wb fv) w wr)
     case atStart=>exact ⟨m,H3.o,rfl,rfl,F3.o⟩
     case round=>
      obtain ⟨q,hq,hs,hg,ak⟩:=hrel;have c0:=hq.sat.c0;rw[hs]at c0;have cz:=hq.sat.word (by rw[hs];exact HZ.o);have HQ:=zab hq;have HS:=zab hs;have HG:=zab hg;have cY:=zab ak;clear hq hs hg ak;go_wp2_with fail
      refine (ml.o _).mono ?_;rintro e w5 ⟨rfl,dK⟩;subst w5;clear c0 cz;go_wp2_with fail
      refine (zl7 HQ.o).mono ?_;unfold MSt.zsJ;split
      ·rintro e w6 ⟨f6,rfl,h6⟩;exact ⟨rfl,cY.o.trans f6,rfl,h6⟩
      ·next aH=>
       have uf:=zab aH;clear aH;rintro e w6 ⟨f6,rfl,h6⟩;have H6:=zab h6;have F6:=zab (cY.o.trans f6);clear f6 h6;go_wp2_with fail
       go_roundg (gk-1)
       case measure=>have:=HG.o;omega
       case rel=>exact ⟨_,H6.o,HS.o,by have:=HG.o;have:=uf.o;simp only;omega,F6.o⟩
    ·next dz=>
     have lj:(z%16 == 3)=false:=by rw[beq_eq_false_iff_ne];exact dz
     generalize z%16=kz at ml lj dz;split at hb
     ·cases hb
     ·next l hl=>
      have CL:=zab (fun (W:World) (hW:MAt W mb wb fv (m)) (rM:BAt W mb wb fv (m).o.pb sl)=>zjp hW rM hl);clear hl;go_wp2_with fail
      go_loopg [33] 1 (fun _ _ wr=>MAt wr mb wb fv (m)/\Fr (MB mb wb fv) w wr)
      case atStart=>exact ⟨H3.o,F3.o⟩
      case round=>
       obtain ⟨hq,ak⟩:=hrel;have c0:=hq.sat.c0;have cz:=hq.sat.word HZ.o;have HQ:=zab hq;have cY:=zab ak;clear hq ak;go_wp2_with fail
       refine (ml.o _).mono ?_;rintro e w5 ⟨rfl,dK⟩;subst w5;clear c0 cz;go_wp2_with fail
       refine (CL.o _ HQ.o (pD.o.fr cY.o)).mono ?_;rintro e w6 ⟨rfl,k6,oe⟩;have H6:Hid (MAt w6 mb wb fv (m)):=zab (by rw[oe];exact HQ.o.drewN k6);have F6:Hid (Fr (MB mb wb fv) w w6):=zab (by rw[oe];exact cY.o.drewN k6);clear oe;split at hb
       ·next da=>
        subst da;have CB:=zab (zns H6.o hb);clear hb;go_wp2_with fail
        refine CB.o.mono ?_;cases r with
        |error j=>
         rintro e w7 ⟨f7,rfl,h7⟩;exact ⟨rfl,F6.o.trans f7,rfl,h7⟩
        |ok m'=>
         rintro e w7 ⟨f7,rfl,h7⟩;have H7:=zab h7;have F7:=zab (F6.o.trans f7);clear f7 h7;go_wp2_with fail
         first|go_end0|refine bodyPost_ret (results_none rfl _ _ _) rfl ?_
         exact ⟨F7.o,rfl,H7.o⟩
       ·next da=>
        have xG:(l == 0)=false:=by rw[beq_eq_false_iff_ne];exact da
        have CB:=zab (zlq H6.o (pD.o.fr F6.o) hb);clear hb;go_wp2_with fail
        refine CB.o.mono ?_;cases r with
        |error j=>
         rintro e w7 ⟨f7,rfl,h7⟩;exact ⟨rfl,F6.o.trans f7,rfl,h7⟩
        |ok m'=>
         rintro e w7 ⟨f7,rfl,h7⟩;have H7:=zab h7;have F7:=zab (F6.o.trans f7);clear f7 h7;go_wp2_with fail
         first|go_end0|refine bodyPost_ret (results_none rfl _ _ _) rfl ?_
         exact ⟨F7.o,rfl,H7.o⟩
def armV (t c b:Nat):Value:=.agg #[.int .i64 t,.int .i64 c,.int .i64 b]
theorem MAt.zc3(h:MAt w mb wb fv m)(hk:w.heap.size<=k):¬ MB mb wb fv k:=by
 rintro (h1|h1|h1)
 ·have:=h.sat.blk.lt;omega
 ·have:=h.sat.zeC.lt;omega
 ·rcases h.fat with ⟨h2,_⟩|⟨fb,cap,sp,h2,h3⟩
  ·rw[h2]at h1;cases h1
  ·rw[h2]at h1;have:=h3.1.1.lt;have h4:fb=k:=by simpa [Value.ownBlock] using h1
   omega
def MSt.zqM (m:MSt) (b:Nat):Option MSt:=
 match m.s.nodeAt 0 with
 |none=>none
 |some (a,y)=>
  match m.s.pop 1 with
  |none=>none
  |some s2=>if s2.ws.length<a+1+cnt y then none else
   match s2.zek (s2.words (a+1) (cnt y)) with
   |none=>none
   |some s3=>some { m with s:=s3,o:={ m.o with next:=b } }
def MSt.split (m:MSt) (c b:Nat):Option (Except Nat MSt):=
 match m.s.nodeAt 0 with
 |none=>none
 |some (_,y)=>if c=cnt y then aft (m.zdI c) fun m1=>(m1.zqM b).map .ok else some (.error 3)
theorem zyt{s s':Sto}(h:s.pop c=some s'):s'.ws=s.ws:=by
 unfold Sto.pop at h;split at h
 ·obtain rfl:=zyU h;rfl
 ·cases h
theorem zuv{t b:Nat}(h:MAt w mb wb fv m)(hb:m.split c b=some r):
  Calls prog 209 #[.pointer (some ⟨mb,0,none⟩),armV t c b] w fun e w'=>Ends w mb wb fv r e w':=by
 unfold MSt.split at hb;split at hb
 ·cases hb
 ·next a y ha=>
  obtain ⟨hx,hh⟩:=Sto.zaP ha;obtain ⟨hy,aT,bE,aU⟩:=Sto.zaU hh;have h1:=h.alloc (.cells #[.int .i64 t,.int .i64 c,.int .i64 b] 290);have hB:=Blk.new w [.int .i64 t,.int .i64 c,.int .i64 b] 290;have f1:Fr (MB mb wb fv) w (w.alloc (.cells #[.int .i64 t,.int .i64 c,.int .i64 b] 290)):=(Fr.refl _ _).alloc _;have bu:¬ MB mb wb fv w.heap.size:=h.zc3 (zyN _);have CC:=zab (fun W:World=>za3 y W aT bE);rw[zh9 aT]at CC;have aN:=zf2 y;have eo:(a:Int)<(m.s.ws.length:Int):=by omega
  have CA:=zab (fun (W:World) (hW:MAt W mb wb fv m) (n:Nat)=>zaA (d:=0) (hW.drewN n).sat _ hx);have HH:=zab h;have H1:=zab h1;have B1:=zab hB;have F1:=zab f1;have HY:=zab hy;have bW:=zab bu;clear h ha hx hy hh aT bE aU h1 hB f1 bu;go_enter func209,ntmps209
  unfold armV;go_wp2_with fail
  generalize w.alloc (.cells #[.int .i64 t,.int .i64 c,.int .i64 b] 290)=w1 at H1 F1 B1 ⊢;have c0:=H1.o.sat.c0;have cy:=H1.o.sat.word HY.o;generalize cnt y=k at *
  go_quiet ((first|(go_at_call 82;exact Calls.quiet_of (CA.o _ H1.o _))|(go_at_call 85;exact Calls.quiet_of_same (CC.o _))))
  have H2:=zab (H1.o.drewN nq);have F2:=zab (F1.o.drewN nq);have B2:=zab ((Fr.blk (K:=MB mb wb fv) B1.o ((Fr.refl _ _).drewN nq) bW.o));generalize w1.drewN nq=w2 at H2 F2 B2;clear c0 cy;have q1:=Blk.cell B2.o 1;simp at q1;split at hb
  ·next rW=>
   subst rW;unfold aft at hb;split at hb
   ·cases hb
   ·next k2 hn=>
    obtain rfl:=zyU hb;have CN:=zab (zaW H2.o hn);clear hn hb;go_wp2_with fail
    refine CN.o.mono ?_;rintro e w3 ⟨f3,rfl,h3⟩;exact ⟨rfl,F2.o.trans f3,rfl,h3⟩
   ·next m1 hn=>
    simp only[zyX]at hb;obtain ⟨m2,h2,rfl⟩:=hb;unfold MSt.zqM at h2;split at h2
    ·cases h2
    ·next a1 y1 gm=>
     split at h2
     ·cases h2
     ·next s2 jt=>
      split at h2
      ·cases h2
      ·next aJ=>
       split at h2
       ·cases h2
       ·next s3 js=>
        obtain rfl:=zyU h2;obtain ⟨ee,sq⟩:=Sto.zaP gm;obtain ⟨hz,bq,aP,oR⟩:=Sto.zaU sq;have xX:=zyt jt;have CN:=zab (zaW H2.o hn);have eR:=zab ee;have HZ:=zab (And.intro hz (And.intro bq (And.intro aP (show a1+1+cnt y1<=m1.s.ws.length by rw[<-xX];omega))));have fZ:Hid (a1+1+cnt y1<=s2.ws.length):=zab (by omega);have kE:=zab jt;have oB:=zab js;have Ga:=zab xX;have Ek:=zf2 y1;clear gm jt js ee sq hz bq aP oR hn h2 aJ xX;go_wp2_with fail
        refine CN.o.mono ?_;rintro e w3 ⟨f3,rfl,h3⟩;have H3:=zab h3;have F3:=zab (F2.o.trans f3);have B3:=zab (Fr.blk B2.o f3 bW.o);clear h3 f3 q1;have Bm:=zab (fun n:Nat=>zaA (d:=0) (H3.o.drewN n).sat _ eR.o);have CF:=zab (fun n:Nat=>zcA (H3.o.drewN n).sat a1 y1 HZ.o.1 HZ.o.2.1 HZ.o.2.2.1 HZ.o.2.2.2);go_wp2_with fail
        go_quiet ((first|(go_at_call 82;exact Calls.quiet_of (Bm.o _))|(go_at_call 135;exact Calls.quiet_of (CF.o _))))
        have H4:=zab (H3.o.drewN nq);have F4:=zab (F3.o.drewN nq);have B4:=zab ((Fr.blk (K:=MB mb wb fv) B3.o ((Fr.refl _ _).drewN nq) bW.o));generalize w3.drewN nq=w4 at H4 F4 B4;go_wp2_with fail
        refine (Sto.zbQ H4.o.sat kE.o).mono ?_;rintro e w5 ⟨rfl,h5,f5⟩;have H5:=zab h5;have F5:=zab f5;clear h5 f5;go_wp2_with fail
        refine (Sto.zel H5.o oB.o rfl fZ.o (fun h0=>zbT (by have:=HZ.o.2.2.2;omega))).mono ?_;rintro e w6 ⟨rfl,h6,f6⟩;have H6:=zab h6;have F6:=zab (F5.o.trans f6);clear h6 f6;have B6:=zab (Fr.blk B4.o (F6.o.zc9 fv) bW.o);have q2:=Blk.cell B6.o 2;simp at q2;have d10:=H6.o.c10;have df:=H6.o.blk.frozen 10;go_wp2_with fail
        first|go_end0|refine bodyPost_ret (results_none rfl _ _ _) rfl ?_
        have f7:Fr (M2 mb wb) w4 (w6.setCell ⟨mb,10,none⟩ (.int .i64 b)):=F6.o.set _ _ (.inl (.inl rfl));exact ⟨F4.o.trans (f7.zc9 fv),rfl,H6.o.zgs b,H4.o.fat.fr f7,H4.o.fl,H4.o.fuel⟩
  ·next rW=>
   obtain rfl:=zyU hb;have aH:(c:Int)≠(k:Int):=by omega
   have jq:((c:Int) == (k:Int))=false:=by rw[beq_eq_false_iff_ne];exact aH
   have EW:((c:Int) != (k:Int))=true:=by rw[bne,jq];rfl
   clear hb rW;go_wp2_with fail
   refine (zce 3 _).mono ?_;rintro e w3 ⟨rfl,bL⟩;subst w3;exact ⟨rfl,F2.o,rfl,_,H2.o⟩
def zgI (w:World) (mb wb:Nat) (fv av:Value) (zao:List (Nat × Nat × Nat)):Prop:=
 ∃ ab cap,av=.slice (some ⟨ab,0,none⟩) zao.length cap/\ab<w.heap.size/\¬ MB mb wb fv ab/\zao.length<=1000000 /\
  ∀ (i t c b:Nat),zao[i]?=some (t,c,b)->w.cell? ⟨ab,i*3,none⟩=some (.int .i64 t)/\w.cell? ⟨ab,i*3+1,none⟩=some (.int .i64 c)/\w.cell? ⟨ab,i*3+2,none⟩=some (.int .i64 b)
variable {av:Value}{zao:List (Nat × Nat × Nat)}
theorem zgI.fr{w':World}(h:zgI w mb wb fv av zao)(f:Fr (MB mb wb fv) w w'):zgI w' mb wb fv av zao:=by
 obtain ⟨ab,cap,h1,h2,h3,hl,h4⟩:=h;refine ⟨ab,cap,h1,zyS h2 f.size,h3,hl,fun i t c b hi=>?_⟩;have e:∀ j,w'.cell? ⟨ab,j,none⟩=w.cell? ⟨ab,j,none⟩:=fun j=>World.cell?_of_block (w:=w) (f.block ab h2 h3)
 rw[e,e,e];exact h4 i t c b hi
def MSt.zcc (m:MSt) (y:Int):List (Nat × Nat × Nat)->Option (Except Nat MSt)
 |[]=>some (.error 3)
 |(t,c,b)::l=>if (t:Int)=y/65536 then m.split c b else MSt.zcc m y l
def MSt.choose (m:MSt) (zao:List (Nat × Nat × Nat)):Option (Except Nat MSt):=
 match m.s.nodeAt 0 with
 |none=>none
 |some (_,y)=>if y%16=1 then m.zcc y zao else some (.error 3)
theorem zrf(h:MAt w mb wb fv m)(hA:zgI w mb wb fv av zao)(hb:m.choose zao=some r):
  Calls prog 142 #[.pointer (some ⟨mb,0,none⟩),av] w fun e w'=>Ends w mb wb fv r e w':=by
 have HA:=zab hA;obtain ⟨ab,cap,rfl,_,_,xI,_⟩:=hA;unfold MSt.choose at hb;split at hb
 ·cases hb
 ·next a y ha=>
  obtain ⟨hx,hh⟩:=Sto.zaP ha;obtain ⟨hy,aT,bE,aU⟩:=Sto.zaU hh;have CK:=zab (fun W:World=>za4 y W aT bE);have CW:=zab (fun W:World=>zbw y W aT bE);have eo:(a:Int)<(m.s.ws.length:Int):=by omega
  have CA:=zab (fun (n:Nat)=>zaA (d:=0) (h.drewN n).sat _ hx);have c0:=h.sat.c0;have cy:=h.sat.word hy;have HH:=zab h;have HY:=zab hy;clear h ha hx hy hh aT bE aU;go_enter func142,ntmps142
  go_wp2_with fail
  go_quiet ((go_at_call 82;exact Calls.quiet_of (CA.o _)))
  have H2:=zab (HH.o.drewN nq);have F2:Hid (Fr (MB mb wb fv) w (w.drewN nq)):=zab ((Fr.refl _ _).drewN nq);generalize w.drewN nq=w2 at H2 F2;clear c0 cy;go_wp2_with fail
  refine (CK.o _).mono ?_;rintro e w3 ⟨rfl,bL⟩;subst w3;split at hb
  ·next hk=>
   have HR:=zab hb;have HE:Hid (y/65536=y/65536):=zab rfl;rw[hk];clear hb hk CK;go_wp2_with fail
   go_loopg [24] zao.length (fun gk iv wr=>∃ i:Nat,iv=.int .i64 i/\i+gk=zao.length/\MAt wr mb wb fv m/\m.zcc y (zao.drop i)=some r/\Fr (MB mb wb fv) w wr)
   case atStart=>exact ⟨0,rfl,by omega,H2.o,by rw[zzY];exact HR.o,F2.o⟩
   case round=>
    obtain ⟨i,rfl,hi,hq,hc,ak⟩:=hrel;have HQ:=zab hq;have cY:=zab ak;clear hq ak;cases gk with
    |zero=>
     have nP:¬ (i:Int)<(zao.length:Int):=by omega
     rw[zz6 (by omega)]at hc;obtain rfl:=zyU hc;go_wp2_with fail
     refine (zce 3 _).mono ?_;rintro e w3 ⟨rfl,bL⟩;subst w3;exact ⟨rfl,cY.o,rfl,_,HQ.o⟩
    |succ g=>
     have br:i<zao.length:=by omega
     have nP:(i:Int)<(zao.length:Int):=by omega
     have dt:(0:Int)<=(i:Int):=by omega
     obtain ⟨t,c,b,rP⟩:∃ t c b,zao[i]?=some (t,c,b):=⟨_,_,_,zyM br⟩;rw[zzs br,show zao[i]=(t,c,b) from (zyL.1 rP).2,MSt.zcc]at hc;obtain ⟨Dv,dU,he,_,_,_,dA⟩:=HA.o.fr cY.o;obtain ⟨rfl,rfl⟩:ab=Dv/\cap=dU:=by simpa using he
     obtain ⟨k0,k1,k2⟩:=dA i t c b rP;clear dA he;go_wp2_with fail
     have H4:=zab (HQ.o.alloc (.cells #[.int .i64 t,.int .i64 c,.int .i64 b] 290));have B4:=zab (Blk.new wr [.int .i64 t,.int .i64 c,.int .i64 b] 290);have F4:Hid (Fr (MB mb wb fv) w (wr.alloc (.cells #[.int .i64 t,.int .i64 c,.int .i64 b] 290))):=zab (cY.o.alloc _);generalize wr.alloc (.cells #[.int .i64 t,.int .i64 c,.int .i64 b] 290)=w4 at H4 B4 F4 ⊢;clear k0 k1 k2;have q0:=Blk.cell B4.o 0;simp at q0;have ic:=hc;generalize AX:y/65536=wy at CW ic
     go_quiet ((go_at_call 84;exact Calls.quiet_of_same (CW.o _)))
     have H5:=zab (H4.o.drewN nq);have F5:=zab (F4.o.drewN nq);have B5:Hid (Blk (w4.drewN nq) wr.heap.size [.int .i64 t,.int .i64 c,.int .i64 b] 290):=zab B4.o;generalize w4.drewN nq=w5 at H5 F5 B5;clear q0;have q0:=Blk.cell B5.o 0;have q1:=Blk.cell B5.o 1;have q2:=Blk.cell B5.o 2;simp at q0 q1 q2;split at ic
     ·next ng=>
      have HS:=zab ic;have tj:((t:Int) == wy)=true:=by rw[beq_iff_eq];exact ng
      clear ic hc AX ng;go_wp2_with fail
      have SA:=zuv (t:=t) H5.o HS.o;unfold armV at SA;refine SA.mono ?_;cases r with
      |error j=>
       rintro e w7 ⟨f7,rfl,h7⟩;exact ⟨rfl,F5.o.trans f7,rfl,h7⟩
      |ok m'=>
       rintro e w7 ⟨f7,rfl,h7⟩;have H7:=zab h7;have F7:=zab (F5.o.trans f7);clear f7 h7 q0 q1 q2;go_wp2_with fail
       first|go_end0|refine bodyPost_ret (results_none rfl _ _ _) rfl ?_
       exact ⟨F7.o,rfl,H7.o⟩
     ·next ng=>
      have tj:((t:Int) == wy)=false:=by rw[beq_eq_false_iff_ne];exact ng
      have HS:Hid (m.zcc y (zao.drop (i+1))=some r):=zab ic;clear ic hc AX q0 q1 q2;go_wp2_with fail
      go_roundg g
      case measure=>omega
      case rel=>exact ⟨i+1,by go_num,by omega,H5.o,HS.o,F5.o⟩
  ·next hk=>
   obtain rfl:=zyU hb;have lj:(y%16 == 1)=false:=by rw[beq_eq_false_iff_ne];exact hk
   have xE:(y%16 != 1)=true:=by rw[bne,lj];rfl
   generalize y%16=ky at hk lj xE ⊢;clear hb CK;go_wp2_with fail
   refine (zce 3 _).mono ?_;rintro e w3 ⟨rfl,bL⟩;subst w3;exact ⟨rfl,F2.o,rfl,_,H2.o⟩
end Go.Proofs.YtgahgkddaljmkaaGreatDoor
namespace Go.Proofs.YtgahgkddaljmkaaGreatDoor
open Tryz
open Go.RowKit
abbrev TYi (a b:TypeId):Prop:=∀ (x:Value) (w:World),(Instr.typeAssert (.iface a x) 154 b true).run prog w=.ok (.tuple #[x,.bool true]) w
abbrev TNi (a b:TypeId) (v:Value):Prop:=∀ (x:Value) (w:World),(Instr.typeAssert (.iface a x) 154 b true).run prog w=.ok (.tuple #[v,.bool false]) w
theorem zoF:TYi 248 248:=fun _ _=>by kernel_rfl
theorem zfR:TNi 250 248 (.agg #[.int .i64 0]):=fun _ _=>by kernel_rfl
theorem zc6:TYi 250 250:=fun _ _=>by kernel_rfl
theorem zhp:TNi 252 248 (.agg #[.int .i64 0]):=fun _ _=>by kernel_rfl
theorem zdt:TNi 252 250 (.agg #[.int .i64 0]):=fun _ _=>by kernel_rfl
theorem zd4:TYi 252 252:=fun _ _=>by kernel_rfl
theorem zoE:TNi 254 248 (.agg #[.int .i64 0]):=fun _ _=>by kernel_rfl
theorem zfQ:TNi 254 250 (.agg #[.int .i64 0]):=fun _ _=>by kernel_rfl
theorem zho:TNi 254 252 (.agg #[.int .i64 0]):=fun _ _=>by kernel_rfl
theorem zoD:TYi 254 254:=fun _ _=>by kernel_rfl
theorem zmU:TNi 257 248 (.agg #[.int .i64 0]):=fun _ _=>by kernel_rfl
theorem ze5:TNi 257 250 (.agg #[.int .i64 0]):=fun _ _=>by kernel_rfl
theorem zgx:TNi 257 252 (.agg #[.int .i64 0]):=fun _ _=>by kernel_rfl
theorem zmT:TNi 257 254 (.agg #[.int .i64 0,.int .i64 0]):=fun _ _=>by kernel_rfl
theorem zkV:TYi 257 257:=fun _ _=>by kernel_rfl
theorem zkd:TNi 258 248 (.agg #[.int .i64 0]):=fun _ _=>by kernel_rfl
theorem zes:TNi 258 250 (.agg #[.int .i64 0]):=fun _ _=>by kernel_rfl
theorem zfb:TNi 258 252 (.agg #[.int .i64 0]):=fun _ _=>by kernel_rfl
theorem zkc:TNi 258 254 (.agg #[.int .i64 0,.int .i64 0]):=fun _ _=>by kernel_rfl
theorem ziG:TNi 258 257 (.agg #[.int .i64 0,.int .i64 0]):=fun _ _=>by kernel_rfl
theorem zhq:TYi 258 258:=fun _ _=>by kernel_rfl
theorem zox:TNi 260 248 (.agg #[.int .i64 0]):=fun _ _=>by kernel_rfl
theorem zfN:TNi 260 250 (.agg #[.int .i64 0]):=fun _ _=>by kernel_rfl
theorem zhh:TNi 260 252 (.agg #[.int .i64 0]):=fun _ _=>by kernel_rfl
theorem zow:TNi 260 254 (.agg #[.int .i64 0,.int .i64 0]):=fun _ _=>by kernel_rfl
theorem zmZ:TNi 260 257 (.agg #[.int .i64 0,.int .i64 0]):=fun _ _=>by kernel_rfl
theorem zj9:TNi 260 258 (.agg #[.int .i64 0,.int .i64 0]):=fun _ _=>by kernel_rfl
theorem zov:TYi 260 260:=fun _ _=>by kernel_rfl
theorem zoI:TNi 263 248 (.agg #[.int .i64 0]):=fun _ _=>by kernel_rfl
theorem zfW:TNi 263 250 (.agg #[.int .i64 0]):=fun _ _=>by kernel_rfl
theorem zhr:TNi 263 252 (.agg #[.int .i64 0]):=fun _ _=>by kernel_rfl
theorem zoH:TNi 263 254 (.agg #[.int .i64 0,.int .i64 0]):=fun _ _=>by kernel_rfl
theorem zm7:TNi 263 257 (.agg #[.int .i64 0,.int .i64 0]):=fun _ _=>by kernel_rfl
theorem zke:TNi 263 258 (.agg #[.int .i64 0,.int .i64 0]):=fun _ _=>by kernel_rfl
theorem zoG:TNi 263 260 (.agg #[.int .i64 0,.int .i64 0]):=fun _ _=>by kernel_rfl
theorem zoJ:TYi 263 263:=fun _ _=>by kernel_rfl
theorem zfU:TNi 267 248 (.agg #[.int .i64 0]):=fun _ _=>by kernel_rfl
theorem zc7:TNi 267 250 (.agg #[.int .i64 0]):=fun _ _=>by kernel_rfl
theorem zdu:TNi 267 252 (.agg #[.int .i64 0]):=fun _ _=>by kernel_rfl
theorem zfT:TNi 267 254 (.agg #[.int .i64 0,.int .i64 0]):=fun _ _=>by kernel_rfl
theorem zfe:TNi 267 257 (.agg #[.int .i64 0,.int .i64 0]):=fun _ _=>by kernel_rfl
theorem zet:TNi 267 258 (.agg #[.int .i64 0,.int .i64 0]):=fun _ _=>by kernel_rfl
theorem zfS:TNi 267 260 (.agg #[.int .i64 0,.int .i64 0]):=fun _ _=>by kernel_rfl
theorem zfV:TNi 267 263 (.agg #[.int .i64 0]):=fun _ _=>by kernel_rfl
theorem zc8:TYi 267 267:=fun _ _=>by kernel_rfl
theorem zm5:TNi 268 248 (.agg #[.int .i64 0]):=fun _ _=>by kernel_rfl
theorem zfc:TNi 268 250 (.agg #[.int .i64 0]):=fun _ _=>by kernel_rfl
theorem zgC:TNi 268 252 (.agg #[.int .i64 0]):=fun _ _=>by kernel_rfl
theorem zm4:TNi 268 254 (.agg #[.int .i64 0,.int .i64 0]):=fun _ _=>by kernel_rfl
theorem zkZ:TNi 268 257 (.agg #[.int .i64 0,.int .i64 0]):=fun _ _=>by kernel_rfl
theorem ziH:TNi 268 258 (.agg #[.int .i64 0,.int .i64 0]):=fun _ _=>by kernel_rfl
theorem zm3:TNi 268 260 (.agg #[.int .i64 0,.int .i64 0]):=fun _ _=>by kernel_rfl
theorem zm6:TNi 268 263 (.agg #[.int .i64 0]):=fun _ _=>by kernel_rfl
theorem zfd:TNi 268 267 (.agg #[.int .i64 0]):=fun _ _=>by kernel_rfl
theorem zk0:TYi 268 268:=fun _ _=>by kernel_rfl
theorem zhm:TNi 269 248 (.agg #[.int .i64 0]):=fun _ _=>by kernel_rfl
theorem zdr:TNi 269 250 (.agg #[.int .i64 0]):=fun _ _=>by kernel_rfl
theorem zd3:TNi 269 252 (.agg #[.int .i64 0]):=fun _ _=>by kernel_rfl
theorem zhl:TNi 269 254 (.agg #[.int .i64 0,.int .i64 0]):=fun _ _=>by kernel_rfl
theorem zgA:TNi 269 257 (.agg #[.int .i64 0,.int .i64 0]):=fun _ _=>by kernel_rfl
theorem zfa:TNi 269 258 (.agg #[.int .i64 0,.int .i64 0]):=fun _ _=>by kernel_rfl
theorem zhk:TNi 269 260 (.agg #[.int .i64 0,.int .i64 0]):=fun _ _=>by kernel_rfl
theorem zhn:TNi 269 263 (.agg #[.int .i64 0]):=fun _ _=>by kernel_rfl
theorem zds:TNi 269 267 (.agg #[.int .i64 0]):=fun _ _=>by kernel_rfl
theorem zgB:TNi 269 268 (.agg #[.int .i64 0]):=fun _ _=>by kernel_rfl
theorem zd2:TYi 269 269:=fun _ _=>by kernel_rfl
theorem zj7:TNi 272 248 (.agg #[.int .i64 0]):=fun _ _=>by kernel_rfl
theorem zeq:TNi 272 250 (.agg #[.int .i64 0]):=fun _ _=>by kernel_rfl
theorem ze7:TNi 272 252 (.agg #[.int .i64 0]):=fun _ _=>by kernel_rfl
theorem zj6:TNi 272 254 (.agg #[.int .i64 0,.int .i64 0]):=fun _ _=>by kernel_rfl
theorem ziC:TNi 272 257 (.agg #[.int .i64 0,.int .i64 0]):=fun _ _=>by kernel_rfl
theorem zhg:TNi 272 258 (.agg #[.int .i64 0,.int .i64 0]):=fun _ _=>by kernel_rfl
theorem zj5:TNi 272 260 (.agg #[.int .i64 0,.int .i64 0]):=fun _ _=>by kernel_rfl
theorem zj8:TNi 272 263 (.agg #[.int .i64 0]):=fun _ _=>by kernel_rfl
theorem zer:TNi 272 267 (.agg #[.int .i64 0]):=fun _ _=>by kernel_rfl
theorem ziD:TNi 272 268 (.agg #[.int .i64 0]):=fun _ _=>by kernel_rfl
theorem ze6:TNi 272 269 (.agg #[]):=fun _ _=>by kernel_rfl
theorem zhf:TYi 272 272:=fun _ _=>by kernel_rfl
theorem zmX:TNi 185 248 (.agg #[.int .i64 0]):=fun _ _=>by kernel_rfl
theorem ze8:TNi 185 250 (.agg #[.int .i64 0]):=fun _ _=>by kernel_rfl
theorem zgz:TNi 185 252 (.agg #[.int .i64 0]):=fun _ _=>by kernel_rfl
theorem zmW:TNi 185 254 (.agg #[.int .i64 0,.int .i64 0]):=fun _ _=>by kernel_rfl
theorem zkW:TNi 185 257 (.agg #[.int .i64 0,.int .i64 0]):=fun _ _=>by kernel_rfl
theorem ziF:TNi 185 258 (.agg #[.int .i64 0,.int .i64 0]):=fun _ _=>by kernel_rfl
theorem zmV:TNi 185 260 (.agg #[.int .i64 0,.int .i64 0]):=fun _ _=>by kernel_rfl
theorem zmY:TNi 185 263 (.agg #[.int .i64 0]):=fun _ _=>by kernel_rfl
theorem ze9:TNi 185 267 (.agg #[.int .i64 0]):=fun _ _=>by kernel_rfl
theorem zkY:TNi 185 268 (.agg #[.int .i64 0]):=fun _ _=>by kernel_rfl
theorem zgy:TNi 185 269 (.agg #[]):=fun _ _=>by kernel_rfl
theorem ziE:TNi 185 272 (.agg #[.string ⟨#[]⟩]):=fun _ _=>by kernel_rfl
theorem zkX:TYi 185 185:=fun _ _=>by kernel_rfl
theorem zoB:TNi 273 248 (.agg #[.int .i64 0]):=fun _ _=>by kernel_rfl
theorem zfO:TNi 273 250 (.agg #[.int .i64 0]):=fun _ _=>by kernel_rfl
theorem zhj:TNi 273 252 (.agg #[.int .i64 0]):=fun _ _=>by kernel_rfl
theorem zoA:TNi 273 254 (.agg #[.int .i64 0,.int .i64 0]):=fun _ _=>by kernel_rfl
theorem zm0:TNi 273 257 (.agg #[.int .i64 0,.int .i64 0]):=fun _ _=>by kernel_rfl
theorem zkb:TNi 273 258 (.agg #[.int .i64 0,.int .i64 0]):=fun _ _=>by kernel_rfl
theorem zoy:TNi 273 260 (.agg #[.int .i64 0,.int .i64 0]):=fun _ _=>by kernel_rfl
theorem zoC:TNi 273 263 (.agg #[.int .i64 0]):=fun _ _=>by kernel_rfl
theorem zfP:TNi 273 267 (.agg #[.int .i64 0]):=fun _ _=>by kernel_rfl
theorem zm2:TNi 273 268 (.agg #[.int .i64 0]):=fun _ _=>by kernel_rfl
theorem zhi:TNi 273 269 (.agg #[]):=fun _ _=>by kernel_rfl
theorem zka:TNi 273 272 (.agg #[.string ⟨#[]⟩]):=fun _ _=>by kernel_rfl
theorem zm1:TNi 273 185 (.agg #[]):=fun _ _=>by kernel_rfl
theorem zoz:TYi 273 273:=fun _ _=>by kernel_rfl
theorem zkT:TNi 276 248 (.agg #[.int .i64 0]):=fun _ _=>by kernel_rfl
theorem zeE:TNi 276 250 (.agg #[.int .i64 0]):=fun _ _=>by kernel_rfl
theorem zfM:TNi 276 252 (.agg #[.int .i64 0]):=fun _ _=>by kernel_rfl
theorem zkS:TNi 276 254 (.agg #[.int .i64 0,.int .i64 0]):=fun _ _=>by kernel_rfl
theorem zj2:TNi 276 257 (.agg #[.int .i64 0,.int .i64 0]):=fun _ _=>by kernel_rfl
theorem zh2:TNi 276 258 (.agg #[.int .i64 0,.int .i64 0]):=fun _ _=>by kernel_rfl
theorem zkQ:TNi 276 260 (.agg #[.int .i64 0,.int .i64 0]):=fun _ _=>by kernel_rfl
theorem zkU:TNi 276 263 (.agg #[.int .i64 0]):=fun _ _=>by kernel_rfl
theorem zeF:TNi 276 267 (.agg #[.int .i64 0]):=fun _ _=>by kernel_rfl
theorem zj4:TNi 276 268 (.agg #[.int .i64 0]):=fun _ _=>by kernel_rfl
theorem zfL:TNi 276 269 (.agg #[]):=fun _ _=>by kernel_rfl
theorem zh1:TNi 276 272 (.agg #[.string ⟨#[]⟩]):=fun _ _=>by kernel_rfl
theorem zj3:TNi 276 185 (.agg #[]):=fun _ _=>by kernel_rfl
theorem zkR:TNi 276 273 (.agg #[.int .i64 0]):=fun _ _=>by kernel_rfl
theorem ziB:TYi 276 276:=fun _ _=>by kernel_rfl
end Go.Proofs.YtgahgkddaljmkaaGreatDoor
namespace Go.Proofs.YtgahgkddaljmkaaGreatDoor
open Tryz
open Go.RowKit
attribute [local go_sem ↓] Go.wp_at_zero Go.wp_at_succ
variable {w:World}{mb wb:Nat}{fv:Value}{m:MSt}{r:Except Nat MSt}
theorem zjX{v:Int}(h:MAt w mb wb fv m)(hb:m.zau v=some r):
  Calls prog 81 #[.pointer (some ⟨mb,0,none⟩),.iface 252 (.agg #[.int .i64 v])] w fun e w'=>Ends w mb wb fv r e w':=by
 have i0:=zhp;have i1:=zdt;have i2:=zd4;have H1:=zab (h.alloc (.cells #[.int .i64 v] 252));have B1:=zab (Blk.new w [.int .i64 v] 252);have F1:Hid (Fr (MB mb wb fv) w (w.alloc (.cells #[.int .i64 v] 252))):=zab ((Fr.refl _ _).alloc _);have bW:=zab (h.zc3 (zyN w.heap.size));clear h;go_enter func81,ntmps81
 go_wp2_with fail
 generalize w.alloc (.cells #[.int .i64 v] 252)=w1 at H1 F1 B1 ⊢;clear i0 i1 i2;have CX:=zab (zb1 H1.o hb);refine CX.o.mono ?_;cases r with
 |error j=>
  rintro e w7 ⟨f7,rfl,h7⟩;exact ⟨rfl,F1.o.trans f7,rfl,h7⟩
 |ok m'=>
  rintro e w7 ⟨f7,rfl,h7⟩;have H7:=zab h7;have F7:=zab (F1.o.trans f7);clear f7 h7;go_wp2_with fail
  first|go_end0|refine bodyPost_ret (results_none rfl _ _ _) rfl ?_
  exact ⟨F7.o,rfl,H7.o⟩
variable {c:Nat}
theorem zr5{m2:MSt}(h:MAt w mb wb fv m)(hb:m.zci c=some m2)(hr:r=.ok m2):
  Calls prog 81 #[.pointer (some ⟨mb,0,none⟩),.iface 268 (.agg #[.int .i64 c])] w fun e w'=>Ends w mb wb fv r e w':=by
 have i0:=zm5;have i1:=zfc;have i2:=zgC;have i3:=zm4;have i4:=zkZ;have i5:=ziH;have i6:=zm3;have i7:=zm6;have i8:=zfd;have i9:=zk0;have H1:=zab (h.alloc (.cells #[.int .i64 c] 268));have B1:=zab (Blk.new w [.int .i64 c] 268);have F1:Hid (Fr (MB mb wb fv) w (w.alloc (.cells #[.int .i64 c] 268))):=zab ((Fr.refl _ _).alloc _);have bW:=zab (h.zc3 (zyN w.heap.size));clear h;go_enter func81,ntmps81
 go_wp2_with fail
 generalize w.alloc (.cells #[.int .i64 c] 268)=w1 at H1 F1 B1 ⊢;clear i0 i1 i2 i3 i4 i5 i6 i7 i8 i9;have CX:=zab (zus H1.o hb);subst hr;clear hb;refine CX.o.mono ?_;rintro e w7 ⟨f7,rfl,h7⟩;have H7:=zab h7;have F7:=zab (F1.o.trans f7);clear f7 h7;go_wp2_with fail
 first|go_end0|refine bodyPost_ret (results_none rfl _ _ _) rfl ?_
 exact ⟨F7.o,rfl,H7.o⟩
theorem zjW{q:Except Nat Int}(h:MAt w mb wb fv m)(hb:m.numberAt 0=some q)(hr:r=q.map fun _=>m):
  Calls prog 81 #[.pointer (some ⟨mb,0,none⟩),.iface 269 (.agg #[])] w fun e w'=>Ends w mb wb fv r e w':=by
 have i0:=zhm;have i1:=zdr;have i2:=zd3;have i3:=zhl;have i4:=zgA;have i5:=zfa;have i6:=zhk;have i7:=zhn;have i8:=zds;have i9:=zgB;have ni:=zd2;have H1:=zab (h.alloc (.cells #[] 269));have B1:=zab (Blk.new w [] 269);have F1:Hid (Fr (MB mb wb fv) w (w.alloc (.cells #[] 269))):=zab ((Fr.refl _ _).alloc _);have bW:=zab (h.zc3 (zyN w.heap.size));clear h;go_enter func81,ntmps81
 go_wp2_with fail
 generalize w.alloc (.cells #[] 269)=w1 at H1 F1 B1 ⊢;clear i0 i1 i2 i3 i4 i5 i6 i7 i8 i9 ni;have CX:=zab (zaD H1.o hb);subst hr;clear hb;refine CX.o.mono ?_;rintro e w7 ⟨⟨n7,og⟩,h7⟩;have H7:Hid (MAt w7 mb wb fv m):=zab (by rw[og];exact H1.o.drewN n7);have F7:Hid (Fr (MB mb wb fv) w w7):=zab (by rw[og];exact F1.o.drewN n7);clear og;cases q with
 |error j=>
  obtain rfl:e=up j:=h7;exact ⟨rfl,F7.o,rfl,_,H7.o⟩
 |ok v=>
  obtain rfl:e=.returned (.int .i64 v):=h7;go_wp2_with fail
  first|go_end0|refine bodyPost_ret (results_none rfl _ _ _) rfl ?_
  exact ⟨F7.o,rfl,H7.o⟩
theorem zoo{sg:ByteArray}(h:MAt w mb wb fv m)(hb:m.compute sg=some r):
  Calls prog 81 #[.pointer (some ⟨mb,0,none⟩),.iface 272 (.agg #[.string sg])] w fun e w'=>Ends w mb wb fv r e w':=by
 have i0:=zj7;have i1:=zeq;have i2:=ze7;have i3:=zj6;have i4:=ziC;have i5:=zhg;have i6:=zj5;have i7:=zj8;have i8:=zer;have i9:=ziD;have ni:=ze6;have pw:=zhf;have H1:=zab (h.alloc (.cells #[.string sg] 272));have B1:=zab (Blk.new w [.string sg] 272);have F1:Hid (Fr (MB mb wb fv) w (w.alloc (.cells #[.string sg] 272))):=zab ((Fr.refl _ _).alloc _);have bW:=zab (h.zc3 (zyN w.heap.size));clear h;go_enter func81,ntmps81
 go_wp2_with fail
 generalize w.alloc (.cells #[.string sg] 272)=w1 at H1 F1 B1 ⊢;clear i0 i1 i2 i3 i4 i5 i6 i7 i8 i9 ni pw;have CX:=zab (zpl H1.o hb);refine CX.o.mono ?_;cases r with
 |error j=>
  rintro e w7 ⟨f7,rfl,h7⟩;exact ⟨rfl,F1.o.trans f7,rfl,h7⟩
 |ok m'=>
  rintro e w7 ⟨f7,rfl,h7⟩;have H7:=zab h7;have F7:=zab (F1.o.trans f7);clear f7 h7;go_wp2_with fail
  first|go_end0|refine bodyPost_ret (results_none rfl _ _ _) rfl ?_
  exact ⟨F7.o,rfl,H7.o⟩
variable {sl:List Nat}
theorem zr4(h:MAt w mb wb fv m)(hB:BAt w mb wb fv m.o.pb sl)(hb:m.enter sl=some r):
  Calls prog 81 #[.pointer (some ⟨mb,0,none⟩),.iface 185 (.agg #[])] w fun e w'=>Ends w mb wb fv r e w':=by
 have i0:=zmX;have i1:=ze8;have i2:=zgz;have i3:=zmW;have i4:=zkW;have i5:=ziF;have i6:=zmV;have i7:=zmY;have i8:=ze9;have i9:=zkY;have ni:=zgy;have pw:=ziE;have i12:=zkX;have H1:=zab (h.alloc (.cells #[] 185));have B1:=zab (Blk.new w [] 185);have F1:Hid (Fr (MB mb wb fv) w (w.alloc (.cells #[] 185))):=zab ((Fr.refl _ _).alloc _);have bW:=zab (h.zc3 (zyN w.heap.size));clear h;go_enter func81,ntmps81
 go_wp2_with fail
 generalize w.alloc (.cells #[] 185)=w1 at H1 F1 B1 ⊢;clear i0 i1 i2 i3 i4 i5 i6 i7 i8 i9 ni pw i12;have CX:=zab (znM H1.o (hB.fr F1.o) hb);refine CX.o.mono ?_;cases r with
 |error j=>
  rintro e w7 ⟨f7,rfl,h7⟩;exact ⟨rfl,F1.o.trans f7,rfl,h7⟩
 |ok m'=>
  rintro e w7 ⟨f7,rfl,h7⟩;have H7:=zab h7;have F7:=zab (F1.o.trans f7);clear f7 h7;go_wp2_with fail
  first|go_end0|refine bodyPost_ret (results_none rfl _ _ _) rfl ?_
  exact ⟨F7.o,rfl,H7.o⟩
theorem zuz{b:Nat}(h:MAt w mb wb fv m)(hr:r=.ok { m with o:={ m.o with next:=b } }):
  Calls prog 81 #[.pointer (some ⟨mb,0,none⟩),.iface 273 (.agg #[.int .i64 b])] w fun e w'=>Ends w mb wb fv r e w':=by
 subst hr;have uQ:w.heap.size≠mb:=by have:=h.sat.blk.lt;omega
 have i0:=zoB;have i1:=zfO;have i2:=zhj;have i3:=zoA;have i4:=zm0;have i5:=zkb;have i6:=zoy;have i7:=zoC;have i8:=zfP;have i9:=zm2;have ni:=zhi;have pw:=zka;have i12:=zm1;have yr:=zoz;have H1:=zab (h.alloc (.cells #[.int .i64 b] 273));have B1:=zab (Blk.new w [.int .i64 b] 273);have F1:Hid (Fr (MB mb wb fv) w (w.alloc (.cells #[.int .i64 b] 273))):=zab ((Fr.refl _ _).alloc _);have bW:=zab (h.zc3 (zyN w.heap.size));clear h;go_enter func81,ntmps81
 have d10:=H1.o.sat.c10;have df:=H1.o.sat.blk.frozen 10;have c4:=H1.o.sat.c4;go_wp2_with fail
 generalize w.alloc (.cells #[.int .i64 b] 273)=w1 at H1 F1 B1 ⊢;clear i0 i1 i2 i3 i4 i5 i6 i7 i8 i9 ni pw i12 yr
 first|go_end0|refine bodyPost_ret (results_none rfl _ _ _) rfl ?_
 have f7:Fr (M2 mb wb) w1 (w1.setCell ⟨mb,10,none⟩ (.int .i64 b)):=(Fr.refl _ _).set _ _ (.inl (.inl rfl));exact ⟨F1.o.trans (f7.zc9 fv),rfl,H1.o.sat.zgs b,H1.o.fat.fr f7,H1.o.fl,H1.o.fuel⟩
variable {av:Value}{zao:List (Nat × Nat × Nat)}
theorem zpW(h:MAt w mb wb fv m)(hA:zgI w mb wb fv av zao)(hb:m.choose zao=some r):
  Calls prog 81 #[.pointer (some ⟨mb,0,none⟩),.iface 276 (.agg #[av])] w fun e w'=>Ends w mb wb fv r e w':=by
 have HA:=zab hA;obtain ⟨ab,cap,rfl,_⟩:=hA;have i0:=zkT;have i1:=zeE;have i2:=zfM;have i3:=zkS;have i4:=zj2;have i5:=zh2;have i6:=zkQ;have i7:=zkU;have i8:=zeF;have i9:=zj4;have ni:=zfL;have pw:=zh1;have i12:=zj3;have yr:=zkR;have FE:=ziB;have H1:=zab (h.alloc (.cells #[.slice (some ⟨ab,0,none⟩) zao.length cap] 276));have B1:=zab (Blk.new w [.slice (some ⟨ab,0,none⟩) zao.length cap] 276);have F1:Hid (Fr (MB mb wb fv) w (w.alloc (.cells #[.slice (some ⟨ab,0,none⟩) zao.length cap] 276))):=zab ((Fr.refl _ _).alloc _);have bW:=zab (h.zc3 (zyN w.heap.size));clear h;go_enter func81,ntmps81
 go_wp2_with fail
 generalize w.alloc (.cells #[.slice (some ⟨ab,0,none⟩) zao.length cap] 276)=w1 at H1 F1 B1 ⊢;clear i0 i1 i2 i3 i4 i5 i6 i7 i8 i9 ni pw i12 yr FE;have CX:=zab (zrf H1.o (HA.o.fr F1.o) hb);refine CX.o.mono ?_;cases r with
 |error j=>
  rintro e w7 ⟨f7,rfl,h7⟩;exact ⟨rfl,F1.o.trans f7,rfl,h7⟩
 |ok m'=>
  rintro e w7 ⟨f7,rfl,h7⟩;have H7:=zab h7;have F7:=zab (F1.o.trans f7);clear f7 h7;go_wp2_with fail
  first|go_end0|refine bodyPost_ret (results_none rfl _ _ _) rfl ?_
  exact ⟨F7.o,rfl,H7.o⟩
end Go.Proofs.YtgahgkddaljmkaaGreatDoor
