/- Mach28 .. Mach32 -/
import Derived.Test.YtgahgkddaljmkaaGreatDoorV6
import Derived.Test.YtgahgkddaljmkaaGreatDoorV1
set_option maxRecDepth 100000
set_option maxHeartbeats 4000000
namespace Go.Proofs.YtgahgkddaljmkaaGreatDoor
open Go.RowKit
attribute [local go_sem ↓] Go.wp_at_zero Go.wp_at_succ
def armV (t c b:Nat):Value:=.agg #[.int .i64 t,.int .i64 c,.int .i64 b]
variable {w:World}
variable {mb wb:Nat}
variable {fv:Value}
variable {m:MSt}
theorem MAt.zcZ(h:MAt w mb wb fv m){k:Nat}(hk:w.heap.size<=k):¬ MB mb wb fv k:=by
 rintro (h1|h1|h1)
 ·have:=h.sat.blk.lt;omega
 ·have:=h.sat.zey.lt;omega
 ·rcases h.fat with ⟨h2,_⟩|⟨fb,cap,sp,h2,h3⟩
  ·rw[h2]at h1;cases h1
  ·rw[h2]at h1;have:=h3.1.1.lt;have h4:fb=k:=by simpa [Value.ownBlock] using h1
   omega
def MSt.zpS (m:MSt) (b:Nat):Option MSt:=
 match m.s.nodeAt 0 with
 |none=>none
 |some (a,y)=>
  match m.s.pop 1 with
  |none=>none
  |some s2=>if s2.ws.length<a+1+cnt y then none else
   match s2.zd6 (s2.words (a+1) (cnt y)) with
   |none=>none
   |some s3=>some { m with s:=s3,o:={ m.o with next:=b } }
def MSt.split (m:MSt) (c b:Nat):Option (Except Nat MSt):=
 match m.s.nodeAt 0 with
 |none=>none
 |some (_,y)=>if c=cnt y then aft (m.zdC c) fun m1=>(m1.zpS b).map .ok else some (.error 3)
variable {s s':Sto}
variable {c:Nat}
theorem zxw(h:s.pop c=some s'):s'.ws=s.ws:=by
 unfold Sto.pop at h;split at h
 ·obtain rfl:=zxQ h;rfl
 ·cases h
variable {b:Nat}
variable {r:Except Nat MSt}
theorem zti{t:Nat}(h:MAt w mb wb fv m)(hb:m.split c b=some r):
  Calls Tryz.prog 209 #[.pointer (some ⟨mb,0,none⟩),armV t c b] w fun e w'=>Ends w mb wb fv r e w':=by
 unfold MSt.split at hb;split at hb
 ·cases hb
 ·next a y ha=>
  obtain ⟨hx,hh⟩:=Sto.zaO ha;obtain ⟨hy,hy0,hy1,hal⟩:=Sto.zaT hh;have h1:=h.alloc (.cells #[.int .i64 t,.int .i64 c,.int .i64 b] 290);have hB:=Blk.new w [.int .i64 t,.int .i64 c,.int .i64 b] 290;have f1:Fr (MB mb wb fv) w (w.alloc (.cells #[.int .i64 t,.int .i64 c,.int .i64 b] 290)):=(Fr.refl _ _).alloc _;have hnm:¬ MB mb wb fv w.heap.size:=h.zcZ (zxJ _);have CC:=zab (fun W:World=>za3 y W hy0 hy1);rw[zif hy0]at CC;have hcl:=zfY y;have hal':(a:Int)<(m.s.ws.length:Int):=by omega
  have CA:=zab (fun (W:World) (hW:MAt W mb wb fv m) (n:Nat)=>zaz (d:=0) (hW.drewN n).sat _ hx);have HH:=zab h;have H1:=zab h1;have B1:=zab hB;have F1:=zab f1;have HY:=zab hy;have HNM:=zab hnm;clear h ha hx hy hh hy0 hy1 hal h1 hB f1 hnm;go_enter Tryz.func209,Tryz.ntmps209
  unfold armV;go_wp2_with fail
  generalize w.alloc (.cells #[.int .i64 t,.int .i64 c,.int .i64 b] 290)=w1 at H1 F1 B1 ⊢;have c0:=H1.o.sat.c0;have cy:=H1.o.sat.word HY.o;generalize cnt y=k at *
  go_quiet ((first|(go_at_call 82;exact Calls.quiet_of (CA.o _ H1.o _))|(go_at_call 85;exact Calls.quiet_of_same (CC.o _))))
  have H2:=zab (H1.o.drewN nq);have F2:=zab (F1.o.drewN nq);have B2:=zab ((Fr.blk (K:=MB mb wb fv) B1.o ((Fr.refl _ _).drewN nq) HNM.o));generalize w1.drewN nq=w2 at H2 F2 B2;clear c0 cy;have q1:=Blk.cell B2.o 1;simp at q1;split at hb
  ·next hck=>
   subst hck;unfold aft at hb;split at hb
   ·cases hb
   ·next k2 hn=>
    obtain rfl:=zxQ hb;have CN:=zab (zaV H2.o hn);clear hn hb;go_wp2_with fail
    refine CN.o.mono ?_;rintro e w3 ⟨f3,rfl,h3⟩;exact ⟨rfl,F2.o.trans f3,rfl,h3⟩
   ·next m1 hn=>
    simp only[zxT]at hb;obtain ⟨m2,h2,rfl⟩:=hb;unfold MSt.zpS at h2;split at h2
    ·cases h2
    ·next a1 y1 ha1=>
     split at h2
     ·cases h2
     ·next s2 hpo=>
      split at h2
      ·cases h2
      ·next hfit=>
       split at h2
       ·cases h2
       ·next s3 hpa=>
        obtain rfl:=zxQ h2;obtain ⟨hx1,hh1⟩:=Sto.zaO ha1;obtain ⟨hz,hz0,hz1,hal1⟩:=Sto.zaT hh1;have hpw:=zxw hpo;have CN:=zab (zaV H2.o hn);have HX1:=zab hx1;have HZ:=zab (And.intro hz (And.intro hz0 (And.intro hz1 (show a1+1+cnt y1<=m1.s.ws.length by rw[<-hpw];omega))));have HFIT:Hid (a1+1+cnt y1<=s2.ws.length):=zab (by omega);have HPO:=zab hpo;have HPA:=zab hpa;have HPW:=zab hpw;have hcl1:=zfY y1;clear ha1 hpo hpa hx1 hh1 hz hz0 hz1 hal1 hn h2 hfit hpw;go_wp2_with fail
        refine CN.o.mono ?_;rintro e w3 ⟨f3,rfl,h3⟩;have H3:=zab h3;have F3:=zab (F2.o.trans f3);have B3:=zab (Fr.blk B2.o f3 HNM.o);clear h3 f3 q1;have CA1:=zab (fun n:Nat=>zaz (d:=0) (H3.o.drewN n).sat _ HX1.o);have CF:=zab (fun n:Nat=>zcw (H3.o.drewN n).sat a1 y1 HZ.o.1 HZ.o.2.1 HZ.o.2.2.1 HZ.o.2.2.2);go_wp2_with fail
        go_quiet ((first|(go_at_call 82;exact Calls.quiet_of (CA1.o _))|(go_at_call 135;exact Calls.quiet_of (CF.o _))))
        have H4:=zab (H3.o.drewN nq);have F4:=zab (F3.o.drewN nq);have B4:=zab ((Fr.blk (K:=MB mb wb fv) B3.o ((Fr.refl _ _).drewN nq) HNM.o));generalize w3.drewN nq=w4 at H4 F4 B4;go_wp2_with fail
        refine (Sto.zbK H4.o.sat HPO.o).mono ?_;rintro e w5 ⟨rfl,h5,f5⟩;have H5:=zab h5;have F5:=zab f5;clear h5 f5;go_wp2_with fail
        refine (Sto.zeo H5.o HPA.o rfl HFIT.o (fun h0=>zbS (by have:=HZ.o.2.2.2;omega))).mono ?_;rintro e w6 ⟨rfl,h6,f6⟩;have H6:=zab h6;have F6:=zab (F5.o.trans f6);clear h6 f6;have B6:=zab (Fr.blk B4.o (F6.o.zcW fv) HNM.o);have q2:=Blk.cell B6.o 2;simp at q2;have d10:=H6.o.c10;have df:=H6.o.blk.frozen 10;go_wp2_with fail
        first|go_end0|refine bodyPost_ret (results_none rfl _ _ _) rfl ?_
        have f7:Fr (M2 mb wb) w4 (w6.setCell ⟨mb,10,none⟩ (.int .i64 b)):=F6.o.set _ _ (.inl (.inl rfl));exact ⟨F4.o.trans (f7.zcW fv),rfl,H6.o.zgx b,H4.o.fat.fr f7,H4.o.fl,H4.o.fuel⟩
  ·next hck=>
   obtain rfl:=zxQ hb;have hne:(c:Int)≠(k:Int):=by omega
   have hne2:((c:Int) == (k:Int))=false:=by rw[beq_eq_false_iff_ne];exact hne
   have hne3:((c:Int) != (k:Int))=true:=by rw[bne,hne2];rfl
   clear hb hck;go_wp2_with fail
   refine (zb9 3 _).mono ?_;rintro e w3 ⟨rfl,hw3⟩;subst w3;exact ⟨rfl,F2.o,rfl,_,H2.o⟩
def zgW (w:World) (mb wb:Nat) (fv av:Value) (zao:List (Nat × Nat × Nat)):Prop:=
 ∃ ab cap,av=.slice (some ⟨ab,0,none⟩) zao.length cap/\ab<w.heap.size/\¬ MB mb wb fv ab/\zao.length<=1000000 /\
  ∀ (i t c b:Nat),zao[i]?=some (t,c,b)->w.cell? ⟨ab,i*3,none⟩=some (.int .i64 t)/\w.cell? ⟨ab,i*3+1,none⟩=some (.int .i64 c)/\w.cell? ⟨ab,i*3+2,none⟩=some (.int .i64 b)
variable {av:Value}
variable {zao:List (Nat × Nat × Nat)}
theorem zgW.fr{w':World}(h:zgW w mb wb fv av zao)(f:Fr (MB mb wb fv) w w'):zgW w' mb wb fv av zao:=by
 obtain ⟨ab,cap,h1,h2,h3,hl,h4⟩:=h;refine ⟨ab,cap,h1,zxO h2 f.size,h3,hl,fun i t c b hi=>?_⟩;have e:∀ j,w'.cell? ⟨ab,j,none⟩=w.cell? ⟨ab,j,none⟩:=fun j=>World.cell?_of_block (w:=w) (f.block ab h2 h3)
 rw[e,e,e];exact h4 i t c b hi
def MSt.zca (m:MSt) (y:Int):List (Nat × Nat × Nat)->Option (Except Nat MSt)
 |[]=>some (.error 3)
 |(t,c,b)::l=>if (t:Int)=y/65536 then m.split c b else MSt.zca m y l
def MSt.choose (m:MSt) (zao:List (Nat × Nat × Nat)):Option (Except Nat MSt):=
 match m.s.nodeAt 0 with
 |none=>none
 |some (_,y)=>if y%16=1 then m.zca y zao else some (.error 3)
theorem zrz(h:MAt w mb wb fv m)(hA:zgW w mb wb fv av zao)(hb:m.choose zao=some r):
  Calls Tryz.prog 142 #[.pointer (some ⟨mb,0,none⟩),av] w fun e w'=>Ends w mb wb fv r e w':=by
 have HA:=zab hA;obtain ⟨ab,cap,rfl,_,_,hln,_⟩:=hA;unfold MSt.choose at hb;split at hb
 ·cases hb
 ·next a y ha=>
  obtain ⟨hx,hh⟩:=Sto.zaO ha;obtain ⟨hy,hy0,hy1,hal⟩:=Sto.zaT hh;have CK:=zab (fun W:World=>za2 y W hy0 hy1);have CW:=zab (fun W:World=>zbu y W hy0 hy1);have hal':(a:Int)<(m.s.ws.length:Int):=by omega
  have CA:=zab (fun (n:Nat)=>zaz (d:=0) (h.drewN n).sat _ hx);have c0:=h.sat.c0;have cy:=h.sat.word hy;have HH:=zab h;have HY:=zab hy;clear h ha hx hy hh hy0 hy1 hal;go_enter Tryz.func142,Tryz.ntmps142
  go_wp2_with fail
  go_quiet ((go_at_call 82;exact Calls.quiet_of (CA.o _)))
  have H2:=zab (HH.o.drewN nq);have F2:Hid (Fr (MB mb wb fv) w (w.drewN nq)):=zab ((Fr.refl _ _).drewN nq);generalize w.drewN nq=w2 at H2 F2;clear c0 cy;go_wp2_with fail
  refine (CK.o _).mono ?_;rintro e w3 ⟨rfl,hw3⟩;subst w3;split at hb
  ·next hk=>
   have HR:=zab hb;have HE:Hid (y/65536=y/65536):=zab rfl;rw[hk];clear hb hk CK;go_wp2_with fail
   go_loopg [24] zao.length (fun gk iv wr=>∃ i:Nat,iv=.int .i64 i/\i+gk=zao.length/\MAt wr mb wb fv m/\m.zca y (zao.drop i)=some r/\Fr (MB mb wb fv) w wr)
   case atStart=>exact ⟨0,rfl,by omega,H2.o,by rw[zyX];exact HR.o,F2.o⟩
   case round=>
    obtain ⟨i,rfl,hi,hq,hc,hfr⟩:=hrel;have HQ:=zab hq;have HFR:=zab hfr;clear hq hfr;cases gk with
    |zero=>
     have hic:¬ (i:Int)<(zao.length:Int):=by omega
     rw[zy2 (by omega)]at hc;obtain rfl:=zxQ hc;go_wp2_with fail
     refine (zb9 3 _).mono ?_;rintro e w3 ⟨rfl,hw3⟩;subst w3;exact ⟨rfl,HFR.o,rfl,_,HQ.o⟩
    |succ g=>
     have hil:i<zao.length:=by omega
     have hic:(i:Int)<(zao.length:Int):=by omega
     have hi0:(0:Int)<=(i:Int):=by omega
     obtain ⟨t,c,b,harm⟩:∃ t c b,zao[i]?=some (t,c,b):=⟨_,_,_,zxI hil⟩;rw[zyn hil,show zao[i]=(t,c,b) from (zxH.1 harm).2,MSt.zca]at hc;obtain ⟨ab',cap',he,_,_,_,hcells⟩:=HA.o.fr HFR.o;obtain ⟨rfl,rfl⟩:ab=ab'/\cap=cap':=by simpa using he
     obtain ⟨k0,k1,k2⟩:=hcells i t c b harm;clear hcells he;go_wp2_with fail
     have H4:=zab (HQ.o.alloc (.cells #[.int .i64 t,.int .i64 c,.int .i64 b] 290));have B4:=zab (Blk.new wr [.int .i64 t,.int .i64 c,.int .i64 b] 290);have F4:Hid (Fr (MB mb wb fv) w (wr.alloc (.cells #[.int .i64 t,.int .i64 c,.int .i64 b] 290))):=zab (HFR.o.alloc _);generalize wr.alloc (.cells #[.int .i64 t,.int .i64 c,.int .i64 b] 290)=w4 at H4 B4 F4 ⊢;clear k0 k1 k2;have q0:=Blk.cell B4.o 0;simp at q0;have hcc:=hc;generalize hwy:y/65536=wy at CW hcc
     go_quiet ((go_at_call 84;exact Calls.quiet_of_same (CW.o _)))
     have H5:=zab (H4.o.drewN nq);have F5:=zab (F4.o.drewN nq);have B5:Hid (Blk (w4.drewN nq) wr.heap.size [.int .i64 t,.int .i64 c,.int .i64 b] 290):=zab B4.o;generalize w4.drewN nq=w5 at H5 F5 B5;clear q0;have q0:=Blk.cell B5.o 0;have q1:=Blk.cell B5.o 1;have q2:=Blk.cell B5.o 2;simp at q0 q1 q2;split at hcc
     ·next htw=>
      have HS:=zab hcc;have htb:((t:Int) == wy)=true:=by rw[beq_iff_eq];exact htw
      clear hcc hc hwy htw;go_wp2_with fail
      have SA:=zti (t:=t) H5.o HS.o;unfold armV at SA;refine SA.mono ?_;cases r with
      |error j=>
       rintro e w7 ⟨f7,rfl,h7⟩;exact ⟨rfl,F5.o.trans f7,rfl,h7⟩
      |ok m'=>
       rintro e w7 ⟨f7,rfl,h7⟩;have H7:=zab h7;have F7:=zab (F5.o.trans f7);clear f7 h7 q0 q1 q2;go_wp2_with fail
       first|go_end0|refine bodyPost_ret (results_none rfl _ _ _) rfl ?_
       exact ⟨F7.o,rfl,H7.o⟩
     ·next htw=>
      have htb:((t:Int) == wy)=false:=by rw[beq_eq_false_iff_ne];exact htw
      have HS:Hid (m.zca y (zao.drop (i+1))=some r):=zab hcc;clear hcc hc hwy q0 q1 q2;go_wp2_with fail
      go_roundg g
      case measure=>omega
      case rel=>exact ⟨i+1,by go_num,by omega,H5.o,HS.o,F5.o⟩
  ·next hk=>
   obtain rfl:=zxQ hb;have hkb:(y%16 == 1)=false:=by rw[beq_eq_false_iff_ne];exact hk
   have hkb2:(y%16 != 1)=true:=by rw[bne,hkb];rfl
   generalize y%16=ky at hk hkb hkb2 ⊢;clear hb CK;go_wp2_with fail
   refine (zb9 3 _).mono ?_;rintro e w3 ⟨rfl,hw3⟩;subst w3;exact ⟨rfl,F2.o,rfl,_,H2.o⟩
end Go.Proofs.YtgahgkddaljmkaaGreatDoor
namespace Go.Proofs.YtgahgkddaljmkaaGreatDoor
open Go.RowKit
abbrev TYi (a b:TypeId):Prop:=∀ (x:Value) (w:World),(Instr.typeAssert (.iface a x) 154 b true).run Tryz.prog w=.ok (.tuple #[x,.bool true]) w
abbrev TNi (a b:TypeId) (v:Value):Prop:=∀ (x:Value) (w:World),(Instr.typeAssert (.iface a x) 154 b true).run Tryz.prog w=.ok (.tuple #[v,.bool false]) w
theorem zoD:TYi 248 248:=fun _ _=>by kernel_rfl
theorem zfM:TNi 250 248 (.agg #[.int .i64 0]):=fun _ _=>by kernel_rfl
theorem zcX:TYi 250 250:=fun _ _=>by kernel_rfl
theorem zhh:TNi 252 248 (.agg #[.int .i64 0]):=fun _ _=>by kernel_rfl
theorem zdt:TNi 252 250 (.agg #[.int .i64 0]):=fun _ _=>by kernel_rfl
theorem zdN:TYi 252 252:=fun _ _=>by kernel_rfl
theorem zoJ:TNi 254 248 (.agg #[.int .i64 0]):=fun _ _=>by kernel_rfl
theorem zfE:TNi 254 250 (.agg #[.int .i64 0]):=fun _ _=>by kernel_rfl
theorem zhs:TNi 254 252 (.agg #[.int .i64 0]):=fun _ _=>by kernel_rfl
theorem zm6:TYi 254 254:=fun _ _=>by kernel_rfl
theorem zmo:TNi 257 248 (.agg #[.int .i64 0]):=fun _ _=>by kernel_rfl
theorem zff:TNi 257 250 (.agg #[.int .i64 0]):=fun _ _=>by kernel_rfl
theorem zge:TNi 257 252 (.agg #[.int .i64 0]):=fun _ _=>by kernel_rfl
theorem zmd:TNi 257 254 (.agg #[.int .i64 0,.int .i64 0]):=fun _ _=>by kernel_rfl
theorem zkB:TYi 257 257:=fun _ _=>by kernel_rfl
theorem zj0:TNi 258 248 (.agg #[.int .i64 0]):=fun _ _=>by kernel_rfl
theorem zek:TNi 258 250 (.agg #[.int .i64 0]):=fun _ _=>by kernel_rfl
theorem ze3:TNi 258 252 (.agg #[.int .i64 0]):=fun _ _=>by kernel_rfl
theorem zjz:TNi 258 254 (.agg #[.int .i64 0,.int .i64 0]):=fun _ _=>by kernel_rfl
theorem zix:TNi 258 257 (.agg #[.int .i64 0,.int .i64 0]):=fun _ _=>by kernel_rfl
theorem zhj:TYi 258 258:=fun _ _=>by kernel_rfl
theorem zm5:TNi 260 248 (.agg #[.int .i64 0]):=fun _ _=>by kernel_rfl
theorem zfB:TNi 260 250 (.agg #[.int .i64 0]):=fun _ _=>by kernel_rfl
theorem zg8:TNi 260 252 (.agg #[.int .i64 0]):=fun _ _=>by kernel_rfl
theorem znC:TNi 260 254 (.agg #[.int .i64 0,.int .i64 0]):=fun _ _=>by kernel_rfl
theorem zmh:TNi 260 257 (.agg #[.int .i64 0,.int .i64 0]):=fun _ _=>by kernel_rfl
theorem zjV:TNi 260 258 (.agg #[.int .i64 0,.int .i64 0]):=fun _ _=>by kernel_rfl
theorem zoF:TYi 260 260:=fun _ _=>by kernel_rfl
theorem znM:TNi 263 248 (.agg #[.int .i64 0]):=fun _ _=>by kernel_rfl
theorem zfG:TNi 263 250 (.agg #[.int .i64 0]):=fun _ _=>by kernel_rfl
theorem zhr:TNi 263 252 (.agg #[.int .i64 0]):=fun _ _=>by kernel_rfl
theorem zoe:TNi 263 254 (.agg #[.int .i64 0,.int .i64 0]):=fun _ _=>by kernel_rfl
theorem zmy:TNi 263 257 (.agg #[.int .i64 0,.int .i64 0]):=fun _ _=>by kernel_rfl
theorem zjt:TNi 263 258 (.agg #[.int .i64 0,.int .i64 0]):=fun _ _=>by kernel_rfl
theorem znX:TNi 263 260 (.agg #[.int .i64 0,.int .i64 0]):=fun _ _=>by kernel_rfl
theorem znE:TYi 263 263:=fun _ _=>by kernel_rfl
theorem zfA:TNi 267 248 (.agg #[.int .i64 0]):=fun _ _=>by kernel_rfl
theorem zc6:TNi 267 250 (.agg #[.int .i64 0]):=fun _ _=>by kernel_rfl
theorem zds:TNi 267 252 (.agg #[.int .i64 0]):=fun _ _=>by kernel_rfl
theorem zfD:TNi 267 254 (.agg #[.int .i64 0,.int .i64 0]):=fun _ _=>by kernel_rfl
theorem zfe:TNi 267 257 (.agg #[.int .i64 0,.int .i64 0]):=fun _ _=>by kernel_rfl
theorem zem:TNi 267 258 (.agg #[.int .i64 0,.int .i64 0]):=fun _ _=>by kernel_rfl
theorem zfJ:TNi 267 260 (.agg #[.int .i64 0,.int .i64 0]):=fun _ _=>by kernel_rfl
theorem zfN:TNi 267 263 (.agg #[.int .i64 0]):=fun _ _=>by kernel_rfl
theorem zc1:TYi 267 267:=fun _ _=>by kernel_rfl
theorem zmQ:TNi 268 248 (.agg #[.int .i64 0]):=fun _ _=>by kernel_rfl
theorem zeI:TNi 268 250 (.agg #[.int .i64 0]):=fun _ _=>by kernel_rfl
theorem zgv:TNi 268 252 (.agg #[.int .i64 0]):=fun _ _=>by kernel_rfl
theorem zl7:TNi 268 254 (.agg #[.int .i64 0,.int .i64 0]):=fun _ _=>by kernel_rfl
theorem zkV:TNi 268 257 (.agg #[.int .i64 0,.int .i64 0]):=fun _ _=>by kernel_rfl
theorem zis:TNi 268 258 (.agg #[.int .i64 0,.int .i64 0]):=fun _ _=>by kernel_rfl
theorem zmB:TNi 268 260 (.agg #[.int .i64 0,.int .i64 0]):=fun _ _=>by kernel_rfl
theorem zmr:TNi 268 263 (.agg #[.int .i64 0]):=fun _ _=>by kernel_rfl
theorem zeP:TNi 268 267 (.agg #[.int .i64 0]):=fun _ _=>by kernel_rfl
theorem zkS:TYi 268 268:=fun _ _=>by kernel_rfl
theorem zgU:TNi 269 248 (.agg #[.int .i64 0]):=fun _ _=>by kernel_rfl
theorem zdq:TNi 269 250 (.agg #[.int .i64 0]):=fun _ _=>by kernel_rfl
theorem zdW:TNi 269 252 (.agg #[.int .i64 0]):=fun _ _=>by kernel_rfl
theorem zhd:TNi 269 254 (.agg #[.int .i64 0,.int .i64 0]):=fun _ _=>by kernel_rfl
theorem zgk:TNi 269 257 (.agg #[.int .i64 0,.int .i64 0]):=fun _ _=>by kernel_rfl
theorem zfd:TNi 269 258 (.agg #[.int .i64 0,.int .i64 0]):=fun _ _=>by kernel_rfl
theorem zg0:TNi 269 260 (.agg #[.int .i64 0,.int .i64 0]):=fun _ _=>by kernel_rfl
theorem zgK:TNi 269 263 (.agg #[.int .i64 0]):=fun _ _=>by kernel_rfl
theorem zdp:TNi 269 267 (.agg #[.int .i64 0]):=fun _ _=>by kernel_rfl
theorem zgd:TNi 269 268 (.agg #[.int .i64 0]):=fun _ _=>by kernel_rfl
theorem zd0:TYi 269 269:=fun _ _=>by kernel_rfl
theorem zkg:TNi 272 248 (.agg #[.int .i64 0]):=fun _ _=>by kernel_rfl
theorem zeh:TNi 272 250 (.agg #[.int .i64 0]):=fun _ _=>by kernel_rfl
theorem zfb:TNi 272 252 (.agg #[.int .i64 0]):=fun _ _=>by kernel_rfl
theorem zjD:TNi 272 254 (.agg #[.int .i64 0,.int .i64 0]):=fun _ _=>by kernel_rfl
theorem zin:TNi 272 257 (.agg #[.int .i64 0,.int .i64 0]):=fun _ _=>by kernel_rfl
theorem zho:TNi 272 258 (.agg #[.int .i64 0,.int .i64 0]):=fun _ _=>by kernel_rfl
theorem zkc:TNi 272 260 (.agg #[.int .i64 0,.int .i64 0]):=fun _ _=>by kernel_rfl
theorem zji:TNi 272 263 (.agg #[.int .i64 0]):=fun _ _=>by kernel_rfl
theorem zd9:TNi 272 267 (.agg #[.int .i64 0]):=fun _ _=>by kernel_rfl
theorem zii:TNi 272 268 (.agg #[.int .i64 0]):=fun _ _=>by kernel_rfl
theorem ze0:TNi 272 269 (.agg #[]):=fun _ _=>by kernel_rfl
theorem zgQ:TYi 272 272:=fun _ _=>by kernel_rfl
theorem zmR:TNi 185 248 (.agg #[.int .i64 0]):=fun _ _=>by kernel_rfl
theorem zeV:TNi 185 250 (.agg #[.int .i64 0]):=fun _ _=>by kernel_rfl
theorem zgh:TNi 185 252 (.agg #[.int .i64 0]):=fun _ _=>by kernel_rfl
theorem zmN:TNi 185 254 (.agg #[.int .i64 0,.int .i64 0]):=fun _ _=>by kernel_rfl
theorem zkH:TNi 185 257 (.agg #[.int .i64 0,.int .i64 0]):=fun _ _=>by kernel_rfl
theorem ziu:TNi 185 258 (.agg #[.int .i64 0,.int .i64 0]):=fun _ _=>by kernel_rfl
theorem zma:TNi 185 260 (.agg #[.int .i64 0,.int .i64 0]):=fun _ _=>by kernel_rfl
theorem zmM:TNi 185 263 (.agg #[.int .i64 0]):=fun _ _=>by kernel_rfl
theorem zfh:TNi 185 267 (.agg #[.int .i64 0]):=fun _ _=>by kernel_rfl
theorem zkN:TNi 185 268 (.agg #[.int .i64 0]):=fun _ _=>by kernel_rfl
theorem zgj:TNi 185 269 (.agg #[]):=fun _ _=>by kernel_rfl
theorem zil:TNi 185 272 (.agg #[.string ⟨#[]⟩]):=fun _ _=>by kernel_rfl
theorem zkX:TYi 185 185:=fun _ _=>by kernel_rfl
theorem zoy:TNi 273 248 (.agg #[.int .i64 0]):=fun _ _=>by kernel_rfl
theorem zfK:TNi 273 250 (.agg #[.int .i64 0]):=fun _ _=>by kernel_rfl
theorem zgE:TNi 273 252 (.agg #[.int .i64 0]):=fun _ _=>by kernel_rfl
theorem zoa:TNi 273 254 (.agg #[.int .i64 0,.int .i64 0]):=fun _ _=>by kernel_rfl
theorem zl8:TNi 273 257 (.agg #[.int .i64 0,.int .i64 0]):=fun _ _=>by kernel_rfl
theorem zj1:TNi 273 258 (.agg #[.int .i64 0,.int .i64 0]):=fun _ _=>by kernel_rfl
theorem zoh:TNi 273 260 (.agg #[.int .i64 0,.int .i64 0]):=fun _ _=>by kernel_rfl
theorem zoB:TNi 273 263 (.agg #[.int .i64 0]):=fun _ _=>by kernel_rfl
theorem zfI:TNi 273 267 (.agg #[.int .i64 0]):=fun _ _=>by kernel_rfl
theorem zmH:TNi 273 268 (.agg #[.int .i64 0]):=fun _ _=>by kernel_rfl
theorem zgC:TNi 273 269 (.agg #[]):=fun _ _=>by kernel_rfl
theorem zki:TNi 273 272 (.agg #[.string ⟨#[]⟩]):=fun _ _=>by kernel_rfl
theorem zl0:TNi 273 185 (.agg #[]):=fun _ _=>by kernel_rfl
theorem zm8:TYi 273 273:=fun _ _=>by kernel_rfl
theorem zkz:TNi 276 248 (.agg #[.int .i64 0]):=fun _ _=>by kernel_rfl
theorem zeB:TNi 276 250 (.agg #[.int .i64 0]):=fun _ _=>by kernel_rfl
theorem zfH:TNi 276 252 (.agg #[.int .i64 0]):=fun _ _=>by kernel_rfl
theorem zkn:TNi 276 254 (.agg #[.int .i64 0,.int .i64 0]):=fun _ _=>by kernel_rfl
theorem zj2:TNi 276 257 (.agg #[.int .i64 0,.int .i64 0]):=fun _ _=>by kernel_rfl
theorem zhN:TNi 276 258 (.agg #[.int .i64 0,.int .i64 0]):=fun _ _=>by kernel_rfl
theorem zkT:TNi 276 260 (.agg #[.int .i64 0,.int .i64 0]):=fun _ _=>by kernel_rfl
theorem zkw:TNi 276 263 (.agg #[.int .i64 0]):=fun _ _=>by kernel_rfl
theorem zez:TNi 276 267 (.agg #[.int .i64 0]):=fun _ _=>by kernel_rfl
theorem zj6:TNi 276 268 (.agg #[.int .i64 0]):=fun _ _=>by kernel_rfl
theorem zfC:TNi 276 269 (.agg #[]):=fun _ _=>by kernel_rfl
theorem zhT:TNi 276 272 (.agg #[.string ⟨#[]⟩]):=fun _ _=>by kernel_rfl
theorem ziS:TNi 276 185 (.agg #[]):=fun _ _=>by kernel_rfl
theorem zkG:TNi 276 273 (.agg #[.int .i64 0]):=fun _ _=>by kernel_rfl
theorem ziq:TYi 276 276:=fun _ _=>by kernel_rfl
end Go.Proofs.YtgahgkddaljmkaaGreatDoor
namespace Go.Proofs.YtgahgkddaljmkaaGreatDoor
open Go.RowKit
attribute [local go_sem ↓] Go.wp_at_zero Go.wp_at_succ
variable {w:World}
variable {mb wb:Nat}
variable {fv:Value}
variable {m:MSt}
variable {r:Except Nat MSt}
theorem ziW{v:Int}(h:MAt w mb wb fv m)(hb:m.zau v=some r):
  Calls Tryz.prog 81 #[.pointer (some ⟨mb,0,none⟩),.iface 252 (.agg #[.int .i64 v])] w fun e w'=>Ends w mb wb fv r e w':=by
 have i0:=zhh;have i1:=zdt;have i2:=zdN;have H1:=zab (h.alloc (.cells #[.int .i64 v] 252));have B1:=zab (Blk.new w [.int .i64 v] 252);have F1:Hid (Fr (MB mb wb fv) w (w.alloc (.cells #[.int .i64 v] 252))):=zab ((Fr.refl _ _).alloc _);have HNM:=zab (h.zcZ (zxJ w.heap.size));clear h;go_enter Tryz.func81,Tryz.ntmps81
 go_wp2_with fail
 generalize w.alloc (.cells #[.int .i64 v] 252)=w1 at H1 F1 B1 ⊢;clear i0 i1 i2;have CX:=zab (zbZ H1.o hb);refine CX.o.mono ?_;cases r with
 |error j=>
  rintro e w7 ⟨f7,rfl,h7⟩;exact ⟨rfl,F1.o.trans f7,rfl,h7⟩
 |ok m'=>
  rintro e w7 ⟨f7,rfl,h7⟩;have H7:=zab h7;have F7:=zab (F1.o.trans f7);clear f7 h7;go_wp2_with fail
  first|go_end0|refine bodyPost_ret (results_none rfl _ _ _) rfl ?_
  exact ⟨F7.o,rfl,H7.o⟩
variable {c:Nat}
theorem zq8{m2:MSt}(h:MAt w mb wb fv m)(hb:m.zcf c=some m2)(hr:r=.ok m2):
  Calls Tryz.prog 81 #[.pointer (some ⟨mb,0,none⟩),.iface 268 (.agg #[.int .i64 c])] w fun e w'=>Ends w mb wb fv r e w':=by
 have i0:=zmQ;have i1:=zeI;have i2:=zgv;have i3:=zl7;have i4:=zkV;have i5:=zis;have i6:=zmB;have i7:=zmr;have i8:=zeP;have i9:=zkS;have H1:=zab (h.alloc (.cells #[.int .i64 c] 268));have B1:=zab (Blk.new w [.int .i64 c] 268);have F1:Hid (Fr (MB mb wb fv) w (w.alloc (.cells #[.int .i64 c] 268))):=zab ((Fr.refl _ _).alloc _);have HNM:=zab (h.zcZ (zxJ w.heap.size));clear h;go_enter Tryz.func81,Tryz.ntmps81
 go_wp2_with fail
 generalize w.alloc (.cells #[.int .i64 c] 268)=w1 at H1 F1 B1 ⊢;clear i0 i1 i2 i3 i4 i5 i6 i7 i8 i9;have CX:=zab (zsw H1.o hb);subst hr;clear hb;refine CX.o.mono ?_;rintro e w7 ⟨f7,rfl,h7⟩;have H7:=zab h7;have F7:=zab (F1.o.trans f7);clear f7 h7;go_wp2_with fail
 first|go_end0|refine bodyPost_ret (results_none rfl _ _ _) rfl ?_
 exact ⟨F7.o,rfl,H7.o⟩
theorem zi8{q:Except Nat Int}(h:MAt w mb wb fv m)(hb:m.numberAt 0=some q)(hr:r=q.map fun _=>m):
  Calls Tryz.prog 81 #[.pointer (some ⟨mb,0,none⟩),.iface 269 (.agg #[])] w fun e w'=>Ends w mb wb fv r e w':=by
 have i0:=zgU;have i1:=zdq;have i2:=zdW;have i3:=zhd;have i4:=zgk;have i5:=zfd;have i6:=zg0;have i7:=zgK;have i8:=zdp;have i9:=zgd;have i10:=zd0;have H1:=zab (h.alloc (.cells #[] 269));have B1:=zab (Blk.new w [] 269);have F1:Hid (Fr (MB mb wb fv) w (w.alloc (.cells #[] 269))):=zab ((Fr.refl _ _).alloc _);have HNM:=zab (h.zcZ (zxJ w.heap.size));clear h;go_enter Tryz.func81,Tryz.ntmps81
 go_wp2_with fail
 generalize w.alloc (.cells #[] 269)=w1 at H1 F1 B1 ⊢;clear i0 i1 i2 i3 i4 i5 i6 i7 i8 i9 i10;have CX:=zab (zaD H1.o hb);subst hr;clear hb;refine CX.o.mono ?_;rintro e w7 ⟨⟨n7,hw7⟩,h7⟩;have H7:Hid (MAt w7 mb wb fv m):=zab (by rw[hw7];exact H1.o.drewN n7);have F7:Hid (Fr (MB mb wb fv) w w7):=zab (by rw[hw7];exact F1.o.drewN n7);clear hw7;cases q with
 |error j=>
  obtain rfl:e=up j:=h7;exact ⟨rfl,F7.o,rfl,_,H7.o⟩
 |ok v=>
  obtain rfl:e=.returned (.int .i64 v):=h7;go_wp2_with fail
  first|go_end0|refine bodyPost_ret (results_none rfl _ _ _) rfl ?_
  exact ⟨F7.o,rfl,H7.o⟩
theorem znR{sg:ByteArray}(h:MAt w mb wb fv m)(hb:m.compute sg=some r):
  Calls Tryz.prog 81 #[.pointer (some ⟨mb,0,none⟩),.iface 272 (.agg #[.string sg])] w fun e w'=>Ends w mb wb fv r e w':=by
 have i0:=zkg;have i1:=zeh;have i2:=zfb;have i3:=zjD;have i4:=zin;have i5:=zho;have i6:=zkc;have i7:=zji;have i8:=zd9;have i9:=zii;have i10:=ze0;have i11:=zgQ;have H1:=zab (h.alloc (.cells #[.string sg] 272));have B1:=zab (Blk.new w [.string sg] 272);have F1:Hid (Fr (MB mb wb fv) w (w.alloc (.cells #[.string sg] 272))):=zab ((Fr.refl _ _).alloc _);have HNM:=zab (h.zcZ (zxJ w.heap.size));clear h;go_enter Tryz.func81,Tryz.ntmps81
 go_wp2_with fail
 generalize w.alloc (.cells #[.string sg] 272)=w1 at H1 F1 B1 ⊢;clear i0 i1 i2 i3 i4 i5 i6 i7 i8 i9 i10 i11;have CX:=zab (zpe H1.o hb);refine CX.o.mono ?_;cases r with
 |error j=>
  rintro e w7 ⟨f7,rfl,h7⟩;exact ⟨rfl,F1.o.trans f7,rfl,h7⟩
 |ok m'=>
  rintro e w7 ⟨f7,rfl,h7⟩;have H7:=zab h7;have F7:=zab (F1.o.trans f7);clear f7 h7;go_wp2_with fail
  first|go_end0|refine bodyPost_ret (results_none rfl _ _ _) rfl ?_
  exact ⟨F7.o,rfl,H7.o⟩
theorem zrR{sl:List Nat}(h:MAt w mb wb fv m)(hB:BAt w mb wb fv m.o.pb sl)(hb:m.enter sl=some r):
  Calls Tryz.prog 81 #[.pointer (some ⟨mb,0,none⟩),.iface 185 (.agg #[])] w fun e w'=>Ends w mb wb fv r e w':=by
 have i0:=zmR;have i1:=zeV;have i2:=zgh;have i3:=zmN;have i4:=zkH;have i5:=ziu;have i6:=zma;have i7:=zmM;have i8:=zfh;have i9:=zkN;have i10:=zgj;have i11:=zil;have i12:=zkX;have H1:=zab (h.alloc (.cells #[] 185));have B1:=zab (Blk.new w [] 185);have F1:Hid (Fr (MB mb wb fv) w (w.alloc (.cells #[] 185))):=zab ((Fr.refl _ _).alloc _);have HNM:=zab (h.zcZ (zxJ w.heap.size));clear h;go_enter Tryz.func81,Tryz.ntmps81
 go_wp2_with fail
 generalize w.alloc (.cells #[] 185)=w1 at H1 F1 B1 ⊢;clear i0 i1 i2 i3 i4 i5 i6 i7 i8 i9 i10 i11 i12;have CX:=zab (znY H1.o (hB.fr F1.o) hb);refine CX.o.mono ?_;cases r with
 |error j=>
  rintro e w7 ⟨f7,rfl,h7⟩;exact ⟨rfl,F1.o.trans f7,rfl,h7⟩
 |ok m'=>
  rintro e w7 ⟨f7,rfl,h7⟩;have H7:=zab h7;have F7:=zab (F1.o.trans f7);clear f7 h7;go_wp2_with fail
  first|go_end0|refine bodyPost_ret (results_none rfl _ _ _) rfl ?_
  exact ⟨F7.o,rfl,H7.o⟩
variable {b:Nat}
theorem zr7(h:MAt w mb wb fv m)(hr:r=.ok { m with o:={ m.o with next:=b } }):
  Calls Tryz.prog 81 #[.pointer (some ⟨mb,0,none⟩),.iface 273 (.agg #[.int .i64 b])] w fun e w'=>Ends w mb wb fv r e w':=by
 subst hr;have hsm:w.heap.size≠mb:=by have:=h.sat.blk.lt;omega
 have i0:=zoy;have i1:=zfK;have i2:=zgE;have i3:=zoa;have i4:=zl8;have i5:=zj1;have i6:=zoh;have i7:=zoB;have i8:=zfI;have i9:=zmH;have i10:=zgC;have i11:=zki;have i12:=zl0;have i13:=zm8;have H1:=zab (h.alloc (.cells #[.int .i64 b] 273));have B1:=zab (Blk.new w [.int .i64 b] 273);have F1:Hid (Fr (MB mb wb fv) w (w.alloc (.cells #[.int .i64 b] 273))):=zab ((Fr.refl _ _).alloc _);have HNM:=zab (h.zcZ (zxJ w.heap.size));clear h;go_enter Tryz.func81,Tryz.ntmps81
 have d10:=H1.o.sat.c10;have df:=H1.o.sat.blk.frozen 10;have c4:=H1.o.sat.c4;go_wp2_with fail
 generalize w.alloc (.cells #[.int .i64 b] 273)=w1 at H1 F1 B1 ⊢;clear i0 i1 i2 i3 i4 i5 i6 i7 i8 i9 i10 i11 i12 i13
 first|go_end0|refine bodyPost_ret (results_none rfl _ _ _) rfl ?_
 have f7:Fr (M2 mb wb) w1 (w1.setCell ⟨mb,10,none⟩ (.int .i64 b)):=(Fr.refl _ _).set _ _ (.inl (.inl rfl));exact ⟨F1.o.trans (f7.zcW fv),rfl,H1.o.sat.zgx b,H1.o.fat.fr f7,H1.o.fl,H1.o.fuel⟩
variable {av:Value}
variable {zao:List (Nat × Nat × Nat)}
theorem zo9(h:MAt w mb wb fv m)(hA:zgW w mb wb fv av zao)(hb:m.choose zao=some r):
  Calls Tryz.prog 81 #[.pointer (some ⟨mb,0,none⟩),.iface 276 (.agg #[av])] w fun e w'=>Ends w mb wb fv r e w':=by
 have HA:=zab hA;obtain ⟨ab,cap,rfl,_⟩:=hA;have i0:=zkz;have i1:=zeB;have i2:=zfH;have i3:=zkn;have i4:=zj2;have i5:=zhN;have i6:=zkT;have i7:=zkw;have i8:=zez;have i9:=zj6;have i10:=zfC;have i11:=zhT;have i12:=ziS;have i13:=zkG;have i14:=ziq;have H1:=zab (h.alloc (.cells #[.slice (some ⟨ab,0,none⟩) zao.length cap] 276));have B1:=zab (Blk.new w [.slice (some ⟨ab,0,none⟩) zao.length cap] 276);have F1:Hid (Fr (MB mb wb fv) w (w.alloc (.cells #[.slice (some ⟨ab,0,none⟩) zao.length cap] 276))):=zab ((Fr.refl _ _).alloc _);have HNM:=zab (h.zcZ (zxJ w.heap.size));clear h;go_enter Tryz.func81,Tryz.ntmps81
 go_wp2_with fail
 generalize w.alloc (.cells #[.slice (some ⟨ab,0,none⟩) zao.length cap] 276)=w1 at H1 F1 B1 ⊢;clear i0 i1 i2 i3 i4 i5 i6 i7 i8 i9 i10 i11 i12 i13 i14;have CX:=zab (zrz H1.o (HA.o.fr F1.o) hb);refine CX.o.mono ?_;cases r with
 |error j=>
  rintro e w7 ⟨f7,rfl,h7⟩;exact ⟨rfl,F1.o.trans f7,rfl,h7⟩
 |ok m'=>
  rintro e w7 ⟨f7,rfl,h7⟩;have H7:=zab h7;have F7:=zab (F1.o.trans f7);clear f7 h7;go_wp2_with fail
  first|go_end0|refine bodyPost_ret (results_none rfl _ _ _) rfl ?_
  exact ⟨F7.o,rfl,H7.o⟩
def MSt.ziO (m:MSt) (k:Nat):Option (Except Nat MSt):=aft (m.zdC 1) fun m1=>
 match m1.slot k with
 |none=>none
 |some i=>
  match m1.s.ws[i]? with
  |none=>none
  |some x=>m1.put (m1.s.push x)
def MSt.zcS (m:MSt) (f:Nat):Option (Except Nat MSt):=aft (m.zdC 1) fun m1=>
 match m1.fns[f]? with
 |none=>none
 |some x=>m1.put (m1.s.push x)
def MSt.zcF (m:MSt) (k b:Nat):Option (Except Nat MSt):=if b<=1000000000 then aft (m.zdC 1) fun m1=>m1.put (m1.s.push (Mk k b)) else none
variable {s s':Sto}
theorem zuw{x:Int}{i:Nat}(h:s.push x=some s')(hx:s.ws[i]?=some x):s'.ws[i]?=some x:=by
 unfold Sto.push at h;split at h
 ·obtain rfl:=zxQ h;simp only;have hi:=(zxH.1 hx).1;by_cases he:s.top-1=i
  ·subst he;rw[List.getElem?_set_self hi]
  ·rw[zzi he];exact hx
 ·cases h
theorem zw3{x:Int}(h:s.push x=some s'):s'.ws.length=s.ws.length:=by
 unfold Sto.push at h;split at h
 ·obtain rfl:=zxQ h;simp
 ·cases h
theorem zsb{k:Nat}(h:MAt w mb wb fv m)(hb:m.ziO k=some r):
  Calls Tryz.prog 81 #[.pointer (some ⟨mb,0,none⟩),.iface 248 (.agg #[.int .i64 k])] w fun e w'=>Ends w mb wb fv r e w':=by
 have i0:=zoD;have H1:=zab (h.alloc (.cells #[.int .i64 k] 248));have B1:=zab (Blk.new w [.int .i64 k] 248);have F1:Hid (Fr (MB mb wb fv) w (w.alloc (.cells #[.int .i64 k] 248))):=zab ((Fr.refl _ _).alloc _);have HNM:=zab (h.zcZ (zxJ w.heap.size));clear h;go_enter Tryz.func81,Tryz.ntmps81
 go_wp2_with fail
 generalize w.alloc (.cells #[.int .i64 k] 248)=w1 at H1 F1 B1 ⊢;clear i0;unfold MSt.ziO at hb;have CX:=zab (fun (q:Except Nat MSt) (hq:m.zdC 1=some q)=>zaV H1.o hq);unfold aft at hb;split at hb
 ·cases hb
 ·next j hn=>
  obtain rfl:=zxQ hb;refine (CX.o _ hn).mono ?_;rintro e w7 ⟨f7,rfl,h7⟩;exact ⟨rfl,F1.o.trans f7,rfl,h7⟩
 ·next m1 hn=>
  refine (CX.o _ hn).mono ?_;rintro e w2 ⟨f2,rfl,h2⟩;have H2:=zab h2;have F2:=zab (F1.o.trans f2);have B2:=zab (Fr.blk B1.o f2 HNM.o);clear h2 f2 hn CX B1 H1 F1;dsimp only at hb;split at hb
  ·cases hb
  ·next i hi=>
   split at hb
   ·cases hb
   ·next x hx=>
    simp only[MSt.put,zxT]at hb;obtain ⟨s4,hpush,rfl⟩:=hb;have HPU:=zab hpush;have HXS:=zab hx;have hil:=(zxH.1 hx).1;have hil1:(i:Int)<(m1.s.ws.length:Int):=by omega
    have CS:=zab (fun (W:World) (hW:MAt W mb wb fv m1)=>zqf hW hi);obtain ⟨L,hL⟩:∃ L,m1.s.ws.length=L:=⟨_,rfl⟩;have HL:=zab hL;rw[hL]at hil1;have c0:=H2.o.sat.c0;rw[hL]at c0;have cb:=Blk.cell B2.o 0;simp at cb;have cx:=H2.o.sat.word hx;clear hpush hi hx hL hil;go_wp2_with fail
    go_region_held3 (fun W=>W.cell? ⟨mb,0,none⟩=some (.slice (some ⟨wb,0,none⟩) L L)/\W.cell? ⟨w.heap.size,0,none⟩=some (.int .i64 k)/\W.cell? ⟨wb,i,none⟩=some (.int .i64 x)) (first|go_keep|(refine ⟨?_,?_,?_⟩ <;> assumption)) (first
     |(go_at_call 131;refine (CS.o _ (H2.o.drewN 1)).mono ?_;rintro e w3 ⟨rfl,k3,hw3⟩;have H3:Hid (MAt w3 mb wb fv m1):=zab (by rw[hw3];exact (H2.o.drewN 1).drewN k3);have F3:Hid (Fr (M2 mb wb) w2 w3):=zab (by rw[hw3];exact ((Fr.refl _ _).drewN 1).drewN k3);have B3:=zab (Fr.blk B2.o (F3.o.zcW fv) HNM.o);have d0:w3.cell? ⟨mb,0,none⟩=some (.slice (some ⟨wb,0,none⟩) L L):=(by rw[H3.o.sat.c0,HL.o]);have db:w3.cell? ⟨w.heap.size,0,none⟩=some (.int .i64 k):=(by simpa using Blk.cell B3.o 0);have dx:=H3.o.sat.word HXS.o;clear hw3)
     |(go_at_call 76;refine (Sto.zb3 H3.o.sat HPU.o).mono ?_;rintro e w4 ⟨rfl,h4,f4⟩;have H4:=zab h4;have F4:=zab (F3.o.trans f4);have e0:w4.cell? ⟨mb,0,none⟩=some (.slice (some ⟨wb,0,none⟩) L L):=(by rw[h4.c0,zw3 HPU.o,HL.o]);have eb:w4.cell? ⟨w.heap.size,0,none⟩=some (.int .i64 k):=(by simpa using Blk.cell (Fr.blk B3.o (f4.zcW fv) HNM.o) 0);have ex:=h4.word (zuw HPU.o HXS.o);clear h4 f4))
    all_goals
     go_wp2_with fail
     first|go_end0|refine bodyPost_ret (results_none rfl _ _ _) rfl ?_
     exact ⟨F2.o.trans (F4.o.zcW fv),rfl,H2.o.fr2 H4.o F4.o⟩
theorem zhD{f:Nat}(h:MAt w mb wb fv m)(hb:m.zcS f=some r):
  Calls Tryz.prog 81 #[.pointer (some ⟨mb,0,none⟩),.iface 250 (.agg #[.int .i64 f])] w fun e w'=>Ends w mb wb fv r e w':=by
 have i0:=zfM;have i1:=zcX;have H1:=zab (h.alloc (.cells #[.int .i64 f] 250));have B1:=zab (Blk.new w [.int .i64 f] 250);have F1:Hid (Fr (MB mb wb fv) w (w.alloc (.cells #[.int .i64 f] 250))):=zab ((Fr.refl _ _).alloc _);have HNM:=zab (h.zcZ (zxJ w.heap.size));clear h;go_enter Tryz.func81,Tryz.ntmps81
 go_wp2_with fail
 generalize w.alloc (.cells #[.int .i64 f] 250)=w1 at H1 F1 B1 ⊢;clear i0 i1;unfold MSt.zcS at hb;have CX:=zab (fun (q:Except Nat MSt) (hq:m.zdC 1=some q)=>zaV H1.o hq);unfold aft at hb;split at hb
 ·cases hb
 ·next j hn=>
  obtain rfl:=zxQ hb;refine (CX.o _ hn).mono ?_;rintro e w7 ⟨f7,rfl,h7⟩;exact ⟨rfl,F1.o.trans f7,rfl,h7⟩
 ·next m1 hn=>
  refine (CX.o _ hn).mono ?_;rintro e w2 ⟨f2,rfl,h2⟩;have H2:=zab h2;have F2:=zab (F1.o.trans f2);have B2:=zab (Fr.blk B1.o f2 HNM.o);clear h2 f2 hn CX B1 H1 F1;dsimp only at hb;split at hb
  ·cases hb
  ·next x hx=>
   simp only[MSt.put,zxT]at hb;obtain ⟨s4,hpush,rfl⟩:=hb;have HPU:=zab hpush;have hil:=(zxH.1 hx).1;rcases H2.o.fat with ⟨_,hnil⟩|⟨fb,cap,sp,rfl,hfa,_⟩
   ·rw[hnil]at hx;cases hx
   ·have hil1:(f:Int)<(m1.fns.length:Int):=by omega
    have c8:=H2.o.sat.c8;have cb:=Blk.cell B2.o 0;simp at cb;have cx:=hfa.word hx;have HFA:=zab hfa;have HXF:=zab hx;clear hpush hx hil hfa;go_wp2_with fail
    go_region_held3 (fun W=>W.cell? ⟨mb,8,none⟩=some (.slice (some ⟨fb,0,none⟩) m1.fns.length cap)/\W.cell? ⟨w.heap.size,0,none⟩=some (.int .i64 f)/\W.cell? ⟨fb,f,none⟩=some (.int .i64 x)) (first|go_keep|(refine ⟨?_,?_,?_⟩ <;> assumption)) ((go_at_call 76;refine (Sto.zb3 H2.o.sat.drew HPU.o).mono ?_;rintro e w4 ⟨rfl,h4,f4⟩;have H4:=zab h4;have F4:Hid (Fr (M2 mb wb) w2 w4):=zab ((Fr.refl _ _).drew.trans f4);have e0:=h4.c8;have eb:w4.cell? ⟨w.heap.size,0,none⟩=some (.int .i64 f):=(by simpa using Blk.cell (Fr.blk B2.o (F4.o.zcW _) HNM.o) 0);have ex:=(HFA.o.fr F4.o).word HXF.o;clear h4 f4))
    all_goals
     go_wp2_with fail
     first|go_end0|refine bodyPost_ret (results_none rfl _ _ _) rfl ?_
     exact ⟨F2.o.trans (F4.o.zcW _),rfl,H2.o.fr2 H4.o F4.o⟩
theorem zsH(h:MAt w mb wb fv m)(hb:m.zcF 1 b=some r):
  Calls Tryz.prog 81 #[.pointer (some ⟨mb,0,none⟩),.iface 263 (.agg #[.int .i64 b])] w fun e w'=>Ends w mb wb fv r e w':=by
 have i0:=znM;have i1:=zfG;have i2:=zhr;have i3:=zoe;have i4:=zmy;have i5:=zjt;have i6:=znX;have i7:=znE;have H1:=zab (h.alloc (.cells #[.int .i64 b] 263));have B1:=zab (Blk.new w [.int .i64 b] 263);have F1:Hid (Fr (MB mb wb fv) w (w.alloc (.cells #[.int .i64 b] 263))):=zab ((Fr.refl _ _).alloc _);have HNM:=zab (h.zcZ (zxJ w.heap.size));clear h;go_enter Tryz.func81,Tryz.ntmps81
 go_wp2_with fail
 generalize w.alloc (.cells #[.int .i64 b] 263)=w1 at H1 F1 B1 ⊢;clear i0 i1 i2 i3 i4 i5 i6 i7;unfold MSt.zcF at hb;split at hb
 ·next hbb=>
  have CX:=zab (fun (q:Except Nat MSt) (hq:m.zdC 1=some q)=>zaV H1.o hq);unfold aft at hb;split at hb
  ·cases hb
  ·next j hn=>
   obtain rfl:=zxQ hb;refine (CX.o _ hn).mono ?_;rintro e w7 ⟨f7,rfl,h7⟩;exact ⟨rfl,F1.o.trans f7,rfl,h7⟩
  ·next m1 hn=>
   refine (CX.o _ hn).mono ?_;rintro e w2 ⟨f2,rfl,h2⟩;have H2:=zab h2;have F2:=zab (F1.o.trans f2);have B2:=zab (Fr.blk B1.o f2 HNM.o);clear h2 f2 hn CX B1 H1 F1;dsimp only at hb;simp only[MSt.put,zxT]at hb;obtain ⟨s4,hpush,rfl⟩:=hb;have CM:=zab (fun W:World=>ziB 1 b W (by omega) hbb);obtain ⟨z,hz⟩:∃ z,Mk 1 b=z:=⟨_,rfl⟩;rw[hz]at CM hpush;have HPU:=zab hpush;have cb:=Blk.cell B2.o 0;simp at cb;clear hpush hz;go_wp2_with fail
   go_region_held3 (fun W=>W.cell? ⟨w.heap.size,0,none⟩=some (.int .i64 b)) (first|go_keep|assumption) (first
    |(go_at_call 138;refine (CM.o _).mono ?_;rintro e w3 ⟨rfl,hw3⟩;subst w3)
    |(go_at_call 76;refine (Sto.zb3 H2.o.sat.drew HPU.o).mono ?_;rintro e w4 ⟨rfl,h4,f4⟩;have H4:=zab h4;have F4:Hid (Fr (M2 mb wb) w2 w4):=zab ((Fr.refl _ _).drew.trans f4);have eb:w4.cell? ⟨w.heap.size,0,none⟩=some (.int .i64 b):=(by simpa using Blk.cell (Fr.blk B2.o (F4.o.zcW fv) HNM.o) 0);clear h4 f4))
   all_goals
    go_wp2_with fail
    first|go_end0|refine bodyPost_ret (results_none rfl _ _ _) rfl ?_
    exact ⟨F2.o.trans (F4.o.zcW fv),rfl,H2.o.fr2 H4.o F4.o⟩
 ·cases hb
theorem zhJ(h:MAt w mb wb fv m)(hb:m.zcF 2 b=some r):
  Calls Tryz.prog 81 #[.pointer (some ⟨mb,0,none⟩),.iface 267 (.agg #[.int .i64 b])] w fun e w'=>Ends w mb wb fv r e w':=by
 have i0:=zfA;have i1:=zc6;have i2:=zds;have i3:=zfD;have i4:=zfe;have i5:=zem;have i6:=zfJ;have i7:=zfN;have i8:=zc1;have H1:=zab (h.alloc (.cells #[.int .i64 b] 267));have B1:=zab (Blk.new w [.int .i64 b] 267);have F1:Hid (Fr (MB mb wb fv) w (w.alloc (.cells #[.int .i64 b] 267))):=zab ((Fr.refl _ _).alloc _);have HNM:=zab (h.zcZ (zxJ w.heap.size));clear h;go_enter Tryz.func81,Tryz.ntmps81
 go_wp2_with fail
 generalize w.alloc (.cells #[.int .i64 b] 267)=w1 at H1 F1 B1 ⊢;clear i0 i1 i2 i3 i4 i5 i6 i7 i8;unfold MSt.zcF at hb;split at hb
 ·next hbb=>
  have CX:=zab (fun (q:Except Nat MSt) (hq:m.zdC 1=some q)=>zaV H1.o hq);unfold aft at hb;split at hb
  ·cases hb
  ·next j hn=>
   obtain rfl:=zxQ hb;refine (CX.o _ hn).mono ?_;rintro e w7 ⟨f7,rfl,h7⟩;exact ⟨rfl,F1.o.trans f7,rfl,h7⟩
  ·next m1 hn=>
   refine (CX.o _ hn).mono ?_;rintro e w2 ⟨f2,rfl,h2⟩;have H2:=zab h2;have F2:=zab (F1.o.trans f2);have B2:=zab (Fr.blk B1.o f2 HNM.o);clear h2 f2 hn CX B1 H1 F1;dsimp only at hb;simp only[MSt.put,zxT]at hb;obtain ⟨s4,hpush,rfl⟩:=hb;have CM:=zab (fun W:World=>ziB 2 b W (by omega) hbb);obtain ⟨z,hz⟩:∃ z,Mk 2 b=z:=⟨_,rfl⟩;rw[hz]at CM hpush;have HPU:=zab hpush;have cb:=Blk.cell B2.o 0;simp at cb;clear hpush hz;go_wp2_with fail
   go_region_held3 (fun W=>W.cell? ⟨w.heap.size,0,none⟩=some (.int .i64 b)) (first|go_keep|assumption) (first
    |(go_at_call 138;refine (CM.o _).mono ?_;rintro e w3 ⟨rfl,hw3⟩;subst w3)
    |(go_at_call 76;refine (Sto.zb3 H2.o.sat.drew HPU.o).mono ?_;rintro e w4 ⟨rfl,h4,f4⟩;have H4:=zab h4;have F4:Hid (Fr (M2 mb wb) w2 w4):=zab ((Fr.refl _ _).drew.trans f4);have eb:w4.cell? ⟨w.heap.size,0,none⟩=some (.int .i64 b):=(by simpa using Blk.cell (Fr.blk B2.o (F4.o.zcW fv) HNM.o) 0);clear h4 f4))
   all_goals
    go_wp2_with fail
    first|go_end0|refine bodyPost_ret (results_none rfl _ _ _) rfl ?_
    exact ⟨F2.o.trans (F4.o.zcW fv),rfl,H2.o.fr2 H4.o F4.o⟩
 ·cases hb
end Go.Proofs.YtgahgkddaljmkaaGreatDoor
