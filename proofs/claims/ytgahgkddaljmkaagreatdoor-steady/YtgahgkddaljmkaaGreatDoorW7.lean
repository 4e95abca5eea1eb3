/- Mach28 .. Mach32 -/
import Derived.Test.YtgahgkddaljmkaaGreatDoorW6
set_option maxRecDepth 100000
set_option maxHeartbeats 4000000
namespace Go.Proofs.YtgahgkddaljmkaaGreatDoor
open Tryz
open Go.RowKit
attribute [local go_sem ↓] Go.wp_at_zero Go.wp_at_succ
def armV (t c b:Nat):Value:=.agg #[.int .i64 t,.int .i64 c,.int .i64 b]
variable {w:World}
variable {mb wb:Nat}
variable {fv:Value}
variable {m:MSt}
theorem MAt.zc3(h:MAt w mb wb fv m){k:Nat}(hk:w.heap.size<=k):¬ MB mb wb fv k:=by
 rintro (h1|h1|h1)
 ·have:=h.sat.blk.lt;omega
 ·have:=h.sat.zeC.lt;omega
 ·rcases h.fat with ⟨h2,_⟩|⟨fb,cap,sp,h2,h3⟩
  ·rw[h2]at h1;cases h1
  ·rw[h2]at h1;have:=h3.1.1.lt;have h4:fb=k:=by simpa [Value.ownBlock] using h1
   omega
def MSt.zqM (m:MSt) (b:Nat):Option MSt:=
 match m.s.nodeAt 0 with
 |none=>none
 |some (a,y)=>
  match m.s.pop 1 with
  |none=>none
  |some s2=>if s2.ws.length<a+1+cnt y then none else
   match s2.zek (s2.words (a+1) (cnt y)) with
   |none=>none
   |some s3=>some { m with s:=s3,o:={ m.o with next:=b } }
def MSt.split (m:MSt) (c b:Nat):Option (Except Nat MSt):=
 match m.s.nodeAt 0 with
 |none=>none
 |some (_,y)=>if c=cnt y then aft (m.zdI c) fun m1=>(m1.zqM b).map .ok else some (.error 3)
variable {s s':Sto}
variable {c:Nat}
theorem zyt(h:s.pop c=some s'):s'.ws=s.ws:=by
 unfold Sto.pop at h;split at h
 ·obtain rfl:=zyU h;rfl
 ·cases h
variable {b:Nat}
variable {r:Except Nat MSt}
theorem zuv{t:Nat}(h:MAt w mb wb fv m)(hb:m.split c b=some r):
  Calls prog 209 #[.pointer (some ⟨mb,0,none⟩),armV t c b] w fun e w'=>Ends w mb wb fv r e w':=by
 unfold MSt.split at hb;split at hb
 ·cases hb
 ·next a y ha=>
  obtain ⟨hx,hh⟩:=Sto.zaP ha;obtain ⟨hy,aT,bE,aU⟩:=Sto.zaU hh;have h1:=h.alloc (.cells #[.int .i64 t,.int .i64 c,.int .i64 b] 290);have hB:=Blk.new w [.int .i64 t,.int .i64 c,.int .i64 b] 290;have f1:Fr (MB mb wb fv) w (w.alloc (.cells #[.int .i64 t,.int .i64 c,.int .i64 b] 290)):=(Fr.refl _ _).alloc _;have bu:¬ MB mb wb fv w.heap.size:=h.zc3 (zyN _);have CC:=zab (fun W:World=>za3 y W aT bE);rw[zh9 aT]at CC;have aN:=zf2 y;have eo:(a:Int)<(m.s.ws.length:Int):=by omega
  have CA:=zab (fun (W:World) (hW:MAt W mb wb fv m) (n:Nat)=>zaA (d:=0) (hW.drewN n).sat _ hx);have HH:=zab h;have H1:=zab h1;have B1:=zab hB;have F1:=zab f1;have HY:=zab hy;have bW:=zab bu;clear h ha hx hy hh aT bE aU h1 hB f1 bu;go_enter func209,ntmps209
  unfold armV;go_wp2_with fail
  generalize w.alloc (.cells #[.int .i64 t,.int .i64 c,.int .i64 b] 290)=w1 at H1 F1 B1 ⊢;have c0:=H1.o.sat.c0;have cy:=H1.o.sat.word HY.o;generalize cnt y=k at *
  go_quiet ((first|(go_at_call 82;exact Calls.quiet_of (CA.o _ H1.o _))|(go_at_call 85;exact Calls.quiet_of_same (CC.o _))))
  have H2:=zab (H1.o.drewN nq);have F2:=zab (F1.o.drewN nq);have B2:=zab ((Fr.blk (K:=MB mb wb fv) B1.o ((Fr.refl _ _).drewN nq) bW.o));generalize w1.drewN nq=w2 at H2 F2 B2;clear c0 cy;have q1:=Blk.cell B2.o 1;simp at q1;split at hb
  ·next rW=>
   subst rW;unfold aft at hb;split at hb
   ·cases hb
   ·next k2 hn=>
    obtain rfl:=zyU hb;have CN:=zab (zaW H2.o hn);clear hn hb;go_wp2_with fail
    refine CN.o.mono ?_;rintro e w3 ⟨f3,rfl,h3⟩;exact ⟨rfl,F2.o.trans f3,rfl,h3⟩
   ·next m1 hn=>
    simp only[zyX]at hb;obtain ⟨m2,h2,rfl⟩:=hb;unfold MSt.zqM at h2;split at h2
    ·cases h2
    ·next a1 y1 gm=>
     split at h2
     ·cases h2
     ·next s2 jt=>
      split at h2
      ·cases h2
      ·next aJ=>
       split at h2
       ·cases h2
       ·next s3 js=>
        obtain rfl:=zyU h2;obtain ⟨ee,sq⟩:=Sto.zaP gm;obtain ⟨hz,bq,aP,oR⟩:=Sto.zaU sq;have xX:=zyt jt;have CN:=zab (zaW H2.o hn);have eR:=zab ee;have HZ:=zab (And.intro hz (And.intro bq (And.intro aP (show a1+1+cnt y1<=m1.s.ws.length by rw[<-xX];omega))));have fZ:Hid (a1+1+cnt y1<=s2.ws.length):=zab (by omega);have kE:=zab jt;have oB:=zab js;have Ga:=zab xX;have Ek:=zf2 y1;clear gm jt js ee sq hz bq aP oR hn h2 aJ xX;go_wp2_with fail
        refine CN.o.mono ?_;rintro e w3 ⟨f3,rfl,h3⟩;have H3:=zab h3;have F3:=zab (F2.o.trans f3);have B3:=zab (Fr.blk B2.o f3 bW.o);clear h3 f3 q1;have Bm:=zab (fun n:Nat=>zaA (d:=0) (H3.o.drewN n).sat _ eR.o);have CF:=zab (fun n:Nat=>zcA (H3.o.drewN n).sat a1 y1 HZ.o.1 HZ.o.2.1 HZ.o.2.2.1 HZ.o.2.2.2);go_wp2_with fail
        go_quiet ((first|(go_at_call 82;exact Calls.quiet_of (Bm.o _))|(go_at_call 135;exact Calls.quiet_of (CF.o _))))
        have H4:=zab (H3.o.drewN nq);have F4:=zab (F3.o.drewN nq);have B4:=zab ((Fr.blk (K:=MB mb wb fv) B3.o ((Fr.refl _ _).drewN nq) bW.o));generalize w3.drewN nq=w4 at H4 F4 B4;go_wp2_with fail
        refine (Sto.zbQ H4.o.sat kE.o).mono ?_;rintro e w5 ⟨rfl,h5,f5⟩;have H5:=zab h5;have F5:=zab f5;clear h5 f5;go_wp2_with fail
        refine (Sto.zel H5.o oB.o rfl fZ.o (fun h0=>zbT (by have:=HZ.o.2.2.2;omega))).mono ?_;rintro e w6 ⟨rfl,h6,f6⟩;have H6:=zab h6;have F6:=zab (F5.o.trans f6);clear h6 f6;have B6:=zab (Fr.blk B4.o (F6.o.zc9 fv) bW.o);have q2:=Blk.cell B6.o 2;simp at q2;have d10:=H6.o.c10;have df:=H6.o.blk.frozen 10;go_wp2_with fail
        first|go_end0|refine bodyPost_ret (results_none rfl _ _ _) rfl ?_
        have f7:Fr (M2 mb wb) w4 (w6.setCell ⟨mb,10,none⟩ (.int .i64 b)):=F6.o.set _ _ (.inl (.inl rfl));exact ⟨F4.o.trans (f7.zc9 fv),rfl,H6.o.zgs b,H4.o.fat.fr f7,H4.o.fl,H4.o.fuel⟩
  ·next rW=>
   obtain rfl:=zyU hb;have aH:(c:Int)≠(k:Int):=by omega
   have jq:((c:Int) == (k:Int))=false:=by rw[beq_eq_false_iff_ne];exact aH
   have EW:((c:Int) != (k:Int))=true:=by rw[bne,jq];rfl
   clear hb rW;go_wp2_with fail
   refine (zce 3 _).mono ?_;rintro e w3 ⟨rfl,bL⟩;subst w3;exact ⟨rfl,F2.o,rfl,_,H2.o⟩
def zgI (w:World) (mb wb:Nat) (fv av:Value) (zao:List (Nat × Nat × Nat)):Prop:=
 ∃ ab cap,av=.slice (some ⟨ab,0,none⟩) zao.length cap/\ab<w.heap.size/\¬ MB mb wb fv ab/\zao.length<=1000000 /\
  ∀ (i t c b:Nat),zao[i]?=some (t,c,b)->w.cell? ⟨ab,i*3,none⟩=some (.int .i64 t)/\w.cell? ⟨ab,i*3+1,none⟩=some (.int .i64 c)/\w.cell? ⟨ab,i*3+2,none⟩=some (.int .i64 b)
variable {av:Value}
variable {zao:List (Nat × Nat × Nat)}
theorem zgI.fr{w':World}(h:zgI w mb wb fv av zao)(f:Fr (MB mb wb fv) w w'):zgI w' mb wb fv av zao:=by
 obtain ⟨ab,cap,h1,h2,h3,hl,h4⟩:=h;refine ⟨ab,cap,h1,zyS h2 f.size,h3,hl,fun i t c b hi=>?_⟩;have e:∀ j,w'.cell? ⟨ab,j,none⟩=w.cell? ⟨ab,j,none⟩:=fun j=>World.cell?_of_block (w:=w) (f.block ab h2 h3)
 rw[e,e,e];exact h4 i t c b hi
def MSt.zcc (m:MSt) (y:Int):List (Nat × Nat × Nat)->Option (Except Nat MSt)
 |[]=>some (.error 3)
 |(t,c,b)::l=>if (t:Int)=y/65536 then m.split c b else MSt.zcc m y l
def MSt.choose (m:MSt) (zao:List (Nat × Nat × Nat)):Option (Except Nat MSt):=
 match m.s.nodeAt 0 with
 |none=>none
 |some (_,y)=>if y%16=1 then m.zcc y zao else some (.error 3)
theorem zrf(h:MAt w mb wb fv m)(hA:zgI w mb wb fv av zao)(hb:m.choose zao=some r):
  Calls prog 142 #[.pointer (some ⟨mb,0,none⟩),av] w fun e w'=>Ends w mb wb fv r e w':=by
 have HA:=zab hA;obtain ⟨ab,cap,rfl,_,_,xI,_⟩:=hA;unfold MSt.choose at hb;split at hb
 ·cases hb
 ·next a y ha=>
  obtain ⟨hx,hh⟩:=Sto.zaP ha;obtain ⟨hy,aT,bE,aU⟩:=Sto.zaU hh;have CK:=zab (fun W:World=>za4 y W aT bE);have CW:=zab (fun W:World=>zbw y W aT bE);have eo:(a:Int)<(m.s.ws.length:Int):=by omega
  have CA:=zab (fun (n:Nat)=>zaA (d:=0) (h.drewN n).sat _ hx);have c0:=h.sat.c0;have cy:=h.sat.word hy;have HH:=zab h;have HY:=zab hy;clear h ha hx hy hh aT bE aU;go_enter func142,ntmps142
  go_wp2_with fail
  go_quiet ((go_at_call 82;exact Calls.quiet_of (CA.o _)))
  have H2:=zab (HH.o.drewN nq);have F2:Hid (Fr (MB mb wb fv) w (w.drewN nq)):=zab ((Fr.refl _ _).drewN nq);generalize w.drewN nq=w2 at H2 F2;clear c0 cy;go_wp2_with fail
  refine (CK.o _).mono ?_;rintro e w3 ⟨rfl,bL⟩;subst w3;split at hb
  ·next hk=>
   have HR:=zab hb;have HE:Hid (y/65536=y/65536):=zab rfl;rw[hk];clear hb hk CK;go_wp2_with fail
   go_loopg [24] zao.length (fun gk iv wr=>∃ i:Nat,iv=.int .i64 i/\i+gk=zao.length/\MAt wr mb wb fv m/\m.zcc y (zao.drop i)=some r/\Fr (MB mb wb fv) w wr)
   case atStart=>exact ⟨0,rfl,by omega,H2.o,by rw[zzY];exact HR.o,F2.o⟩
   case round=>
    obtain ⟨i,rfl,hi,hq,hc,ak⟩:=hrel;have HQ:=zab hq;have cY:=zab ak;clear hq ak;cases gk with
    |zero=>
     have nP:¬ (i:Int)<(zao.length:Int):=by omega
     rw[zz6 (by omega)]at hc;obtain rfl:=zyU hc;go_wp2_with fail
     refine (zce 3 _).mono ?_;rintro e w3 ⟨rfl,bL⟩;subst w3;exact ⟨rfl,cY.o,rfl,_,HQ.o⟩
    |succ g=>
     have br:i<zao.length:=by omega
     have nP:(i:Int)<(zao.length:Int):=by omega
     have dt:(0:Int)<=(i:Int):=by omega
     obtain ⟨t,c,b,rP⟩:∃ t c b,zao[i]?=some (t,c,b):=⟨_,_,_,zyM br⟩;rw[zzs br,show zao[i]=(t,c,b) from (zyL.1 rP).2,MSt.zcc]at hc;obtain ⟨Dv,dU,he,_,_,_,dA⟩:=HA.o.fr cY.o;obtain ⟨rfl,rfl⟩:ab=Dv/\cap=dU:=by simpa using he
     obtain ⟨k0,k1,k2⟩:=dA i t c b rP;clear dA he;go_wp2_with fail
     have H4:=zab (HQ.o.alloc (.cells #[.int .i64 t,.int .i64 c,.int .i64 b] 290));have B4:=zab (Blk.new wr [.int .i64 t,.int .i64 c,.int .i64 b] 290);have F4:Hid (Fr (MB mb wb fv) w (wr.alloc (.cells #[.int .i64 t,.int .i64 c,.int .i64 b] 290))):=zab (cY.o.alloc _);generalize wr.alloc (.cells #[.int .i64 t,.int .i64 c,.int .i64 b] 290)=w4 at H4 B4 F4 ⊢;clear k0 k1 k2;have q0:=Blk.cell B4.o 0;simp at q0;have ic:=hc;generalize AX:y/65536=wy at CW ic
     go_quiet ((go_at_call 84;exact Calls.quiet_of_same (CW.o _)))
     have H5:=zab (H4.o.drewN nq);have F5:=zab (F4.o.drewN nq);have B5:Hid (Blk (w4.drewN nq) wr.heap.size [.int .i64 t,.int .i64 c,.int .i64 b] 290):=zab B4.o;generalize w4.drewN nq=w5 at H5 F5 B5;clear q0;have q0:=Blk.cell B5.o 0;have q1:=Blk.cell B5.o 1;have q2:=Blk.cell B5.o 2;simp at q0 q1 q2;split at ic
     ·next ng=>
      have HS:=zab ic;have tj:((t:Int) == wy)=true:=by rw[beq_iff_eq];exact ng
      clear ic hc AX ng;go_wp2_with fail
      have SA:=zuv (t:=t) H5.o HS.o;unfold armV at SA;refine SA.mono ?_;cases r with
      |error j=>
       rintro e w7 ⟨f7,rfl,h7⟩;exact ⟨rfl,F5.o.trans f7,rfl,h7⟩
      |ok m'=>
       rintro e w7 ⟨f7,rfl,h7⟩;have H7:=zab h7;have F7:=zab (F5.o.trans f7);clear f7 h7 q0 q1 q2;go_wp2_with fail
       first|go_end0|refine bodyPost_ret (results_none rfl _ _ _) rfl ?_
       exact ⟨F7.o,rfl,H7.o⟩
     ·next ng=>
      have tj:((t:Int) == wy)=false:=by rw[beq_eq_false_iff_ne];exact ng
      have HS:Hid (m.zcc y (zao.drop (i+1))=some r):=zab ic;clear ic hc AX q0 q1 q2;go_wp2_with fail
      go_roundg g
      case measure=>omega
      case rel=>exact ⟨i+1,by go_num,by omega,H5.o,HS.o,F5.o⟩
  ·next hk=>
   obtain rfl:=zyU hb;have lj:(y%16 == 1)=false:=by rw[beq_eq_false_iff_ne];exact hk
   have xE:(y%16 != 1)=true:=by rw[bne,lj];rfl
   generalize y%16=ky at hk lj xE ⊢;clear hb CK;go_wp2_with fail
   refine (zce 3 _).mono ?_;rintro e w3 ⟨rfl,bL⟩;subst w3;exact ⟨rfl,F2.o,rfl,_,H2.o⟩
end Go.Proofs.YtgahgkddaljmkaaGreatDoor
namespace Go.Proofs.YtgahgkddaljmkaaGreatDoor
open Tryz
open Go.RowKit
abbrev TYi (a b:TypeId):Prop:=∀ (x:Value) (w:World),(Instr.typeAssert (.iface a x) 154 b true).run prog w=.ok (.tuple #[x,.bool true]) w
abbrev TNi (a b:TypeId) (v:Value):Prop:=∀ (x:Value) (w:World),(Instr.typeAssert (.iface a x) 154 b true).run prog w=.ok (.tuple #[v,.bool false]) w
theorem zoF:TYi 248 248:=fun _ _=>by kernel_rfl
theorem zfR:TNi 250 248 (.agg #[.int .i64 0]):=fun _ _=>by kernel_rfl
theorem zc6:TYi 250 250:=fun _ _=>by kernel_rfl
theorem zhp:TNi 252 248 (.agg #[.int .i64 0]):=fun _ _=>by kernel_rfl
theorem zdt:TNi 252 250 (.agg #[.int .i64 0]):=fun _ _=>by kernel_rfl
theorem zd4:TYi 252 252:=fun _ _=>by kernel_rfl
theorem zoE:TNi 254 248 (.agg #[.int .i64 0]):=fun _ _=>by kernel_rfl
theorem zfQ:TNi 254 250 (.agg #[.int .i64 0]):=fun _ _=>by kernel_rfl
theorem zho:TNi 254 252 (.agg #[.int .i64 0]):=fun _ _=>by kernel_rfl
theorem zoD:TYi 254 254:=fun _ _=>by kernel_rfl
theorem zmU:TNi 257 248 (.agg #[.int .i64 0]):=fun _ _=>by kernel_rfl
theorem ze5:TNi 257 250 (.agg #[.int .i64 0]):=fun _ _=>by kernel_rfl
theorem zgx:TNi 257 252 (.agg #[.int .i64 0]):=fun _ _=>by kernel_rfl
theorem zmT:TNi 257 254 (.agg #[.int .i64 0,.int .i64 0]):=fun _ _=>by kernel_rfl
theorem zkV:TYi 257 257:=fun _ _=>by kernel_rfl
theorem zkd:TNi 258 248 (.agg #[.int .i64 0]):=fun _ _=>by kernel_rfl
theorem zes:TNi 258 250 (.agg #[.int .i64 0]):=fun _ _=>by kernel_rfl
theorem zfb:TNi 258 252 (.agg #[.int .i64 0]):=fun _ _=>by kernel_rfl
theorem zkc:TNi 258 254 (.agg #[.int .i64 0,.int .i64 0]):=fun _ _=>by kernel_rfl
theorem ziG:TNi 258 257 (.agg #[.int .i64 0,.int .i64 0]):=fun _ _=>by kernel_rfl
theorem zhq:TYi 258 258:=fun _ _=>by kernel_rfl
theorem zox:TNi 260 248 (.agg #[.int .i64 0]):=fun _ _=>by kernel_rfl
theorem zfN:TNi 260 250 (.agg #[.int .i64 0]):=fun _ _=>by kernel_rfl
theorem zhh:TNi 260 252 (.agg #[.int .i64 0]):=fun _ _=>by kernel_rfl
theorem zow:TNi 260 254 (.agg #[.int .i64 0,.int .i64 0]):=fun _ _=>by kernel_rfl
theorem zmZ:TNi 260 257 (.agg #[.int .i64 0,.int .i64 0]):=fun _ _=>by kernel_rfl
theorem zj9:TNi 260 258 (.agg #[.int .i64 0,.int .i64 0]):=fun _ _=>by kernel_rfl
theorem zov:TYi 260 260:=fun _ _=>by kernel_rfl
theorem zoI:TNi 263 248 (.agg #[.int .i64 0]):=fun _ _=>by kernel_rfl
theorem zfW:TNi 263 250 (.agg #[.int .i64 0]):=fun _ _=>by kernel_rfl
theorem zhr:TNi 263 252 (.agg #[.int .i64 0]):=fun _ _=>by kernel_rfl
theorem zoH:TNi 263 254 (.agg #[.int .i64 0,.int .i64 0]):=fun _ _=>by kernel_rfl
theorem zm7:TNi 263 257 (.agg #[.int .i64 0,.int .i64 0]):=fun _ _=>by kernel_rfl
theorem zke:TNi 263 258 (.agg #[.int .i64 0,.int .i64 0]):=fun _ _=>by kernel_rfl
theorem zoG:TNi 263 260 (.agg #[.int .i64 0,.int .i64 0]):=fun _ _=>by kernel_rfl
theorem zoJ:TYi 263 263:=fun _ _=>by kernel_rfl
theorem zfU:TNi 267 248 (.agg #[.int .i64 0]):=fun _ _=>by kernel_rfl
theorem zc7:TNi 267 250 (.agg #[.int .i64 0]):=fun _ _=>by kernel_rfl
theorem zdu:TNi 267 252 (.agg #[.int .i64 0]):=fun _ _=>by kernel_rfl
theorem zfT:TNi 267 254 (.agg #[.int .i64 0,.int .i64 0]):=fun _ _=>by kernel_rfl
theorem zfe:TNi 267 257 (.agg #[.int .i64 0,.int .i64 0]):=fun _ _=>by kernel_rfl
theorem zet:TNi 267 258 (.agg #[.int .i64 0,.int .i64 0]):=fun _ _=>by kernel_rfl
theorem zfS:TNi 267 260 (.agg #[.int .i64 0,.int .i64 0]):=fun _ _=>by kernel_rfl
theorem zfV:TNi 267 263 (.agg #[.int .i64 0]):=fun _ _=>by kernel_rfl
theorem zc8:TYi 267 267:=fun _ _=>by kernel_rfl
theorem zm5:TNi 268 248 (.agg #[.int .i64 0]):=fun _ _=>by kernel_rfl
theorem zfc:TNi 268 250 (.agg #[.int .i64 0]):=fun _ _=>by kernel_rfl
theorem zgC:TNi 268 252 (.agg #[.int .i64 0]):=fun _ _=>by kernel_rfl
theorem zm4:TNi 268 254 (.agg #[.int .i64 0,.int .i64 0]):=fun _ _=>by kernel_rfl
theorem zkZ:TNi 268 257 (.agg #[.int .i64 0,.int .i64 0]):=fun _ _=>by kernel_rfl
theorem ziH:TNi 268 258 (.agg #[.int .i64 0,.int .i64 0]):=fun _ _=>by kernel_rfl
theorem zm3:TNi 268 260 (.agg #[.int .i64 0,.int .i64 0]):=fun _ _=>by kernel_rfl
theorem zm6:TNi 268 263 (.agg #[.int .i64 0]):=fun _ _=>by kernel_rfl
theorem zfd:TNi 268 267 (.agg #[.int .i64 0]):=fun _ _=>by kernel_rfl
theorem zk0:TYi 268 268:=fun _ _=>by kernel_rfl
theorem zhm:TNi 269 248 (.agg #[.int .i64 0]):=fun _ _=>by kernel_rfl
theorem zdr:TNi 269 250 (.agg #[.int .i64 0]):=fun _ _=>by kernel_rfl
theorem zd3:TNi 269 252 (.agg #[.int .i64 0]):=fun _ _=>by kernel_rfl
theorem zhl:TNi 269 254 (.agg #[.int .i64 0,.int .i64 0]):=fun _ _=>by kernel_rfl
theorem zgA:TNi 269 257 (.agg #[.int .i64 0,.int .i64 0]):=fun _ _=>by kernel_rfl
theorem zfa:TNi 269 258 (.agg #[.int .i64 0,.int .i64 0]):=fun _ _=>by kernel_rfl
theorem zhk:TNi 269 260 (.agg #[.int .i64 0,.int .i64 0]):=fun _ _=>by kernel_rfl
theorem zhn:TNi 269 263 (.agg #[.int .i64 0]):=fun _ _=>by kernel_rfl
theorem zds:TNi 269 267 (.agg #[.int .i64 0]):=fun _ _=>by kernel_rfl
theorem zgB:TNi 269 268 (.agg #[.int .i64 0]):=fun _ _=>by kernel_rfl
theorem zd2:TYi 269 269:=fun _ _=>by kernel_rfl
theorem zj7:TNi 272 248 (.agg #[.int .i64 0]):=fun _ _=>by kernel_rfl
theorem zeq:TNi 272 250 (.agg #[.int .i64 0]):=fun _ _=>by kernel_rfl
theorem ze7:TNi 272 252 (.agg #[.int .i64 0]):=fun _ _=>by kernel_rfl
theorem zj6:TNi 272 254 (.agg #[.int .i64 0,.int .i64 0]):=fun _ _=>by kernel_rfl
theorem ziC:TNi 272 257 (.agg #[.int .i64 0,.int .i64 0]):=fun _ _=>by kernel_rfl
theorem zhg:TNi 272 258 (.agg #[.int .i64 0,.int .i64 0]):=fun _ _=>by kernel_rfl
theorem zj5:TNi 272 260 (.agg #[.int .i64 0,.int .i64 0]):=fun _ _=>by kernel_rfl
theorem zj8:TNi 272 263 (.agg #[.int .i64 0]):=fun _ _=>by kernel_rfl
theorem zer:TNi 272 267 (.agg #[.int .i64 0]):=fun _ _=>by kernel_rfl
theorem ziD:TNi 272 268 (.agg #[.int .i64 0]):=fun _ _=>by kernel_rfl
theorem ze6:TNi 272 269 (.agg #[]):=fun _ _=>by kernel_rfl
theorem zhf:TYi 272 272:=fun _ _=>by kernel_rfl
theorem zmX:TNi 185 248 (.agg #[.int .i64 0]):=fun _ _=>by kernel_rfl
theorem ze8:TNi 185 250 (.agg #[.int .i64 0]):=fun _ _=>by kernel_rfl
theorem zgz:TNi 185 252 (.agg #[.int .i64 0]):=fun _ _=>by kernel_rfl
theorem zmW:TNi 185 254 (.agg #[.int .i64 0,.int .i64 0]):=fun _ _=>by kernel_rfl
theorem zkW:TNi 185 257 (.agg #[.int .i64 0,.int .i64 0]):=fun _ _=>by kernel_rfl
theorem ziF:TNi 185 258 (.agg #[.int .i64 0,.int .i64 0]):=fun _ _=>by kernel_rfl
theorem zmV:TNi 185 260 (.agg #[.int .i64 0,.int .i64 0]):=fun _ _=>by kernel_rfl
theorem zmY:TNi 185 263 (.agg #[.int .i64 0]):=fun _ _=>by kernel_rfl
theorem ze9:TNi 185 267 (.agg #[.int .i64 0]):=fun _ _=>by kernel_rfl
theorem zkY:TNi 185 268 (.agg #[.int .i64 0]):=fun _ _=>by kernel_rfl
theorem zgy:TNi 185 269 (.agg #[]):=fun _ _=>by kernel_rfl
theorem ziE:TNi 185 272 (.agg #[.string ⟨#[]⟩]):=fun _ _=>by kernel_rfl
theorem zkX:TYi 185 185:=fun _ _=>by kernel_rfl
theorem zoB:TNi 273 248 (.agg #[.int .i64 0]):=fun _ _=>by kernel_rfl
theorem zfO:TNi 273 250 (.agg #[.int .i64 0]):=fun _ _=>by kernel_rfl
theorem zhj:TNi 273 252 (.agg #[.int .i64 0]):=fun _ _=>by kernel_rfl
theorem zoA:TNi 273 254 (.agg #[.int .i64 0,.int .i64 0]):=fun _ _=>by kernel_rfl
theorem zm0:TNi 273 257 (.agg #[.int .i64 0,.int .i64 0]):=fun _ _=>by kernel_rfl
theorem zkb:TNi 273 258 (.agg #[.int .i64 0,.int .i64 0]):=fun _ _=>by kernel_rfl
theorem zoy:TNi 273 260 (.agg #[.int .i64 0,.int .i64 0]):=fun _ _=>by kernel_rfl
theorem zoC:TNi 273 263 (.agg #[.int .i64 0]):=fun _ _=>by kernel_rfl
theorem zfP:TNi 273 267 (.agg #[.int .i64 0]):=fun _ _=>by kernel_rfl
theorem zm2:TNi 273 268 (.agg #[.int .i64 0]):=fun _ _=>by kernel_rfl
theorem zhi:TNi 273 269 (.agg #[]):=fun _ _=>by kernel_rfl
theorem zka:TNi 273 272 (.agg #[.string ⟨#[]⟩]):=fun _ _=>by kernel_rfl
theorem zm1:TNi 273 185 (.agg #[]):=fun _ _=>by kernel_rfl
theorem zoz:TYi 273 273:=fun _ _=>by kernel_rfl
theorem zkT:TNi 276 248 (.agg #[.int .i64 0]):=fun _ _=>by kernel_rfl
theorem zeE:TNi 276 250 (.agg #[.int .i64 0]):=fun _ _=>by kernel_rfl
theorem zfM:TNi 276 252 (.agg #[.int .i64 0]):=fun _ _=>by kernel_rfl
theorem zkS:TNi 276 254 (.agg #[.int .i64 0,.int .i64 0]):=fun _ _=>by kernel_rfl
theorem zj2:TNi 276 257 (.agg #[.int .i64 0,.int .i64 0]):=fun _ _=>by kernel_rfl
theorem zh2:TNi 276 258 (.agg #[.int .i64 0,.int .i64 0]):=fun _ _=>by kernel_rfl
theorem zkQ:TNi 276 260 (.agg #[.int .i64 0,.int .i64 0]):=fun _ _=>by kernel_rfl
theorem zkU:TNi 276 263 (.agg #[.int .i64 0]):=fun _ _=>by kernel_rfl
theorem zeF:TNi 276 267 (.agg #[.int .i64 0]):=fun _ _=>by kernel_rfl
theorem zj4:TNi 276 268 (.agg #[.int .i64 0]):=fun _ _=>by kernel_rfl
theorem zfL:TNi 276 269 (.agg #[]):=fun _ _=>by kernel_rfl
theorem zh1:TNi 276 272 (.agg #[.string ⟨#[]⟩]):=fun _ _=>by kernel_rfl
theorem zj3:TNi 276 185 (.agg #[]):=fun _ _=>by kernel_rfl
theorem zkR:TNi 276 273 (.agg #[.int .i64 0]):=fun _ _=>by kernel_rfl
theorem ziB:TYi 276 276:=fun _ _=>by kernel_rfl
end Go.Proofs.YtgahgkddaljmkaaGreatDoor
namespace Go.Proofs.YtgahgkddaljmkaaGreatDoor
open Tryz
open Go.RowKit
attribute [local go_sem ↓] Go.wp_at_zero Go.wp_at_succ
variable {w:World}
variable {mb wb:Nat}
variable {fv:Value}
variable {m:MSt}
variable {r:Except Nat MSt}
theorem zjX{v:Int}(h:MAt w mb wb fv m)(hb:m.zau v=some r):
  Calls prog 81 #[.pointer (some ⟨mb,0,none⟩),.iface 252 (.agg #[.int .i64 v])] w fun e w'=>Ends w mb wb fv r e w':=by
 have i0:=zhp;have i1:=zdt;have i2:=zd4;have H1:=zab (h.alloc (.cells #[.int .i64 v] 252));have B1:=zab (Blk.new w [.int .i64 v] 252);have F1:Hid (Fr (MB mb wb fv) w (w.alloc (.cells #[.int .i64 v] 252))):=zab ((Fr.refl _ _).alloc _);have bW:=zab (h.zc3 (zyN w.heap.size));clear h;go_enter func81,ntmps81
 go_wp2_with fail
 generalize w.alloc (.cells #[.int .i64 v] 252)=w1 at H1 F1 B1 ⊢;clear i0 i1 i2;have CX:=zab (zb1 H1.o hb);refine CX.o.mono ?_;cases r with
 |error j=>
  rintro e w7 ⟨f7,rfl,h7⟩;exact ⟨rfl,F1.o.trans f7,rfl,h7⟩
 |ok m'=>
  rintro e w7 ⟨f7,rfl,h7⟩;have H7:=zab h7;have F7:=zab (F1.o.trans f7);clear f7 h7;go_wp2_with fail
  first|go_end0|refine bodyPost_ret (results_none rfl _ _ _) rfl ?_
  exact ⟨F7.o,rfl,H7.o⟩
variable {c:Nat}
theorem zr5{m2:MSt}(h:MAt w mb wb fv m)(hb:m.zci c=some m2)(hr:r=.ok m2):
  Calls prog 81 #[.pointer (some ⟨mb,0,none⟩),.iface 268 (.agg #[.int .i64 c])] w fun e w'=>Ends w mb wb fv r e w':=by
 have i0:=zm5;have i1:=zfc;have i2:=zgC;have i3:=zm4;have i4:=zkZ;have i5:=ziH;have i6:=zm3;have i7:=zm6;have i8:=zfd;have i9:=zk0;have H1:=zab (h.alloc (.cells #[.int .i64 c] 268));have B1:=zab (Blk.new w [.int .i64 c] 268);have F1:Hid (Fr (MB mb wb fv) w (w.alloc (.cells #[.int .i64 c] 268))):=zab ((Fr.refl _ _).alloc _);have bW:=zab (h.zc3 (zyN w.heap.size));clear h;go_enter func81,ntmps81
 go_wp2_with fail
 generalize w.alloc (.cells #[.int .i64 c] 268)=w1 at H1 F1 B1 ⊢;clear i0 i1 i2 i3 i4 i5 i6 i7 i8 i9;have CX:=zab (zus H1.o hb);subst hr;clear hb;refine CX.o.mono ?_;rintro e w7 ⟨f7,rfl,h7⟩;have H7:=zab h7;have F7:=zab (F1.o.trans f7);clear f7 h7;go_wp2_with fail
 first|go_end0|refine bodyPost_ret (results_none rfl _ _ _) rfl ?_
 exact ⟨F7.o,rfl,H7.o⟩
theorem zjW{q:Except Nat Int}(h:MAt w mb wb fv m)(hb:m.numberAt 0=some q)(hr:r=q.map fun _=>m):
  Calls prog 81 #[.pointer (some ⟨mb,0,none⟩),.iface 269 (.agg #[])] w fun e w'=>Ends w mb wb fv r e w':=by
 have i0:=zhm;have i1:=zdr;have i2:=zd3;have i3:=zhl;have i4:=zgA;have i5:=zfa;have i6:=zhk;have i7:=zhn;have i8:=zds;have i9:=zgB;have ni:=zd2;have H1:=zab (h.alloc (.cells #[] 269));have B1:=zab (Blk.new w [] 269);have F1:Hid (Fr (MB mb wb fv) w (w.alloc (.cells #[] 269))):=zab ((Fr.refl _ _).alloc _);have bW:=zab (h.zc3 (zyN w.heap.size));clear h;go_enter func81,ntmps81
 go_wp2_with fail
 generalize w.alloc (.cells #[] 269)=w1 at H1 F1 B1 ⊢;clear i0 i1 i2 i3 i4 i5 i6 i7 i8 i9 ni;have CX:=zab (zaD H1.o hb);subst hr;clear hb;refine CX.o.mono ?_;rintro e w7 ⟨⟨n7,og⟩,h7⟩;have H7:Hid (MAt w7 mb wb fv m):=zab (by rw[og];exact H1.o.drewN n7);have F7:Hid (Fr (MB mb wb fv) w w7):=zab (by rw[og];exact F1.o.drewN n7);clear og;cases q with
 |error j=>
  obtain rfl:e=up j:=h7;exact ⟨rfl,F7.o,rfl,_,H7.o⟩
 |ok v=>
  obtain rfl:e=.returned (.int .i64 v):=h7;go_wp2_with fail
  first|go_end0|refine bodyPost_ret (results_none rfl _ _ _) rfl ?_
  exact ⟨F7.o,rfl,H7.o⟩
theorem zoo{sg:ByteArray}(h:MAt w mb wb fv m)(hb:m.compute sg=some r):
  Calls prog 81 #[.pointer (some ⟨mb,0,none⟩),.iface 272 (.agg #[.string sg])] w fun e w'=>Ends w mb wb fv r e w':=by
 have i0:=zj7;have i1:=zeq;have i2:=ze7;have i3:=zj6;have i4:=ziC;have i5:=zhg;have i6:=zj5;have i7:=zj8;have i8:=zer;have i9:=ziD;have ni:=ze6;have pw:=zhf;have H1:=zab (h.alloc (.cells #[.string sg] 272));have B1:=zab (Blk.new w [.string sg] 272);have F1:Hid (Fr (MB mb wb fv) w (w.alloc (.cells #[.string sg] 272))):=zab ((Fr.refl _ _).alloc _);have bW:=zab (h.zc3 (zyN w.heap.size));clear h;go_enter func81,ntmps81
 go_wp2_with fail
 generalize w.alloc (.cells #[.string sg] 272)=w1 at H1 F1 B1 ⊢;clear i0 i1 i2 i3 i4 i5 i6 i7 i8 i9 ni pw;have CX:=zab (zpl H1.o hb);refine CX.o.mono ?_;cases r with
 |error j=>
  rintro e w7 ⟨f7,rfl,h7⟩;exact ⟨rfl,F1.o.trans f7,rfl,h7⟩
 |ok m'=>
  rintro e w7 ⟨f7,rfl,h7⟩;have H7:=zab h7;have F7:=zab (F1.o.trans f7);clear f7 h7;go_wp2_with fail
  first|go_end0|refine bodyPost_ret (results_none rfl _ _ _) rfl ?_
  exact ⟨F7.o,rfl,H7.o⟩
theorem zr4{sl:List Nat}(h:MAt w mb wb fv m)(hB:BAt w mb wb fv m.o.pb sl)(hb:m.enter sl=some r):
  Calls prog 81 #[.pointer (some ⟨mb,0,none⟩),.iface 185 (.agg #[])] w fun e w'=>Ends w mb wb fv r e w':=by
 have i0:=zmX;have i1:=ze8;have i2:=zgz;have i3:=zmW;have i4:=zkW;have i5:=ziF;have i6:=zmV;have i7:=zmY;have i8:=ze9;have i9:=zkY;have ni:=zgy;have pw:=ziE;have i12:=zkX;have H1:=zab (h.alloc (.cells #[] 185));have B1:=zab (Blk.new w [] 185);have F1:Hid (Fr (MB mb wb fv) w (w.alloc (.cells #[] 185))):=zab ((Fr.refl _ _).alloc _);have bW:=zab (h.zc3 (zyN w.heap.size));clear h;go_enter func81,ntmps81
 go_wp2_with fail
 generalize w.alloc (.cells #[] 185)=w1 at H1 F1 B1 ⊢;clear i0 i1 i2 i3 i4 i5 i6 i7 i8 i9 ni pw i12;have CX:=zab (znM H1.o (hB.fr F1.o) hb);refine CX.o.mono ?_;cases r with
 |error j=>
  rintro e w7 ⟨f7,rfl,h7⟩;exact ⟨rfl,F1.o.trans f7,rfl,h7⟩
 |ok m'=>
  rintro e w7 ⟨f7,rfl,h7⟩;have H7:=zab h7;have F7:=zab (F1.o.trans f7);clear f7 h7;go_wp2_with fail
  first|go_end0|refine bodyPost_ret (results_none rfl _ _ _) rfl ?_
  exact ⟨F7.o,rfl,H7.o⟩
variable {b:Nat}
theorem zuz(h:MAt w mb wb fv m)(hr:r=.ok { m with o:={ m.o with next:=b } }):
  Calls prog 81 #[.pointer (some ⟨mb,0,none⟩),.iface 273 (.agg #[.int .i64 b])] w fun e w'=>Ends w mb wb fv r e w':=by
 subst hr;have uQ:w.heap.size≠mb:=by have:=h.sat.blk.lt;omega
 have i0:=zoB;have i1:=zfO;have i2:=zhj;have i3:=zoA;have i4:=zm0;have i5:=zkb;have i6:=zoy;have i7:=zoC;have i8:=zfP;have i9:=zm2;have ni:=zhi;have pw:=zka;have i12:=zm1;have yr:=zoz;have H1:=zab (h.alloc (.cells #[.int .i64 b] 273));have B1:=zab (Blk.new w [.int .i64 b] 273);have F1:Hid (Fr (MB mb wb fv) w (w.alloc (.cells #[.int .i64 b] 273))):=zab ((Fr.refl _ _).alloc _);have bW:=zab (h.zc3 (zyN w.heap.size));clear h;go_enter func81,ntmps81
 have d10:=H1.o.sat.c10;have df:=H1.o.sat.blk.frozen 10;have c4:=H1.o.sat.c4;go_wp2_with fail
 generalize w.alloc (.cells #[.int .i64 b] 273)=w1 at H1 F1 B1 ⊢;clear i0 i1 i2 i3 i4 i5 i6 i7 i8 i9 ni pw i12 yr
 first|go_end0|refine bodyPost_ret (results_none rfl _ _ _) rfl ?_
 have f7:Fr (M2 mb wb) w1 (w1.setCell ⟨mb,10,none⟩ (.int .i64 b)):=(Fr.refl _ _).set _ _ (.inl (.inl rfl));exact ⟨F1.o.trans (f7.zc9 fv),rfl,H1.o.sat.zgs b,H1.o.fat.fr f7,H1.o.fl,H1.o.fuel⟩
variable {av:Value}
variable {zao:List (Nat × Nat × Nat)}
theorem zpW(h:MAt w mb wb fv m)(hA:zgI w mb wb fv av zao)(hb:m.choose zao=some r):
  Calls prog 81 #[.pointer (some ⟨mb,0,none⟩),.iface 276 (.agg #[av])] w fun e w'=>Ends w mb wb fv r e w':=by
 have HA:=zab hA;obtain ⟨ab,cap,rfl,_⟩:=hA;have i0:=zkT;have i1:=zeE;have i2:=zfM;have i3:=zkS;have i4:=zj2;have i5:=zh2;have i6:=zkQ;have i7:=zkU;have i8:=zeF;have i9:=zj4;have ni:=zfL;have pw:=zh1;have i12:=zj3;have yr:=zkR;have FE:=ziB;have H1:=zab (h.alloc (.cells #[.slice (some ⟨ab,0,none⟩) zao.length cap] 276));have B1:=zab (Blk.new w [.slice (some ⟨ab,0,none⟩) zao.length cap] 276);have F1:Hid (Fr (MB mb wb fv) w (w.alloc (.cells #[.slice (some ⟨ab,0,none⟩) zao.length cap] 276))):=zab ((Fr.refl _ _).alloc _);have bW:=zab (h.zc3 (zyN w.heap.size));clear h;go_enter func81,ntmps81
 go_wp2_with fail
 generalize w.alloc (.cells #[.slice (some ⟨ab,0,none⟩) zao.length cap] 276)=w1 at H1 F1 B1 ⊢;clear i0 i1 i2 i3 i4 i5 i6 i7 i8 i9 ni pw i12 yr FE;have CX:=zab (zrf H1.o (HA.o.fr F1.o) hb);refine CX.o.mono ?_;cases r with
 |error j=>
  rintro e w7 ⟨f7,rfl,h7⟩;exact ⟨rfl,F1.o.trans f7,rfl,h7⟩
 |ok m'=>
  rintro e w7 ⟨f7,rfl,h7⟩;have H7:=zab h7;have F7:=zab (F1.o.trans f7);clear f7 h7;go_wp2_with fail
  first|go_end0|refine bodyPost_ret (results_none rfl _ _ _) rfl ?_
  exact ⟨F7.o,rfl,H7.o⟩
def MSt.ziT (m:MSt) (k:Nat):Option (Except Nat MSt):=aft (m.zdI 1) fun m1=>
 match m1.slot k with
 |none=>none
 |some i=>
  match m1.s.ws[i]? with
  |none=>none
  |some x=>m1.put (m1.s.push x)
def MSt.zcW (m:MSt) (f:Nat):Option (Except Nat MSt):=aft (m.zdI 1) fun m1=>
 match m1.fns[f]? with
 |none=>none
 |some x=>m1.put (m1.s.push x)
def MSt.zcH (m:MSt) (k b:Nat):Option (Except Nat MSt):=if b<=1000000000 then aft (m.zdI 1) fun m1=>m1.put (m1.s.push (Mk k b)) else none
variable {s s':Sto}
theorem zv2{x:Int}{i:Nat}(h:s.push x=some s')(hx:s.ws[i]?=some x):s'.ws[i]?=some x:=by
 unfold Sto.push at h;split at h
 ·obtain rfl:=zyU h;simp only;have hi:=(zyL.1 hx).1;by_cases he:s.top-1=i
  ·subst he;rw[List.getElem?_set_self hi]
  ·rw[zAo he];exact hx
 ·cases h
theorem zxF{x:Int}(h:s.push x=some s'):s'.ws.length=s.ws.length:=by
 unfold Sto.push at h;split at h
 ·obtain rfl:=zyU h;simp
 ·cases h
theorem zuB{k:Nat}(h:MAt w mb wb fv m)(hb:m.ziT k=some r):
  Calls prog 81 #[.pointer (some ⟨mb,0,none⟩),.iface 248 (.agg #[.int .i64 k])] w fun e w'=>Ends w mb wb fv r e w':=by
 have i0:=zoF;have H1:=zab (h.alloc (.cells #[.int .i64 k] 248));have B1:=zab (Blk.new w [.int .i64 k] 248);have F1:Hid (Fr (MB mb wb fv) w (w.alloc (.cells #[.int .i64 k] 248))):=zab ((Fr.refl _ _).alloc _);have bW:=zab (h.zc3 (zyN w.heap.size));clear h;go_enter func81,ntmps81
 go_wp2_with fail
 generalize w.alloc (.cells #[.int .i64 k] 248)=w1 at H1 F1 B1 ⊢;clear i0;unfold MSt.ziT at hb;have CX:=zab (fun (q:Except Nat MSt) (hq:m.zdI 1=some q)=>zaW H1.o hq);unfold aft at hb;split at hb
 ·cases hb
 ·next j hn=>
  obtain rfl:=zyU hb;refine (CX.o _ hn).mono ?_;rintro e w7 ⟨f7,rfl,h7⟩;exact ⟨rfl,F1.o.trans f7,rfl,h7⟩
 ·next m1 hn=>
  refine (CX.o _ hn).mono ?_;rintro e w2 ⟨f2,rfl,h2⟩;have H2:=zab h2;have F2:=zab (F1.o.trans f2);have B2:=zab (Fr.blk B1.o f2 bW.o);clear h2 f2 hn CX B1 H1 F1;dsimp only at hb;split at hb
  ·cases hb
  ·next i hi=>
   split at hb
   ·cases hb
   ·next x hx=>
    simp only[MSt.put,zyX]at hb;obtain ⟨s4,aM,rfl⟩:=hb;have je:=zab aM;have pN:=zab hx;have br:=(zyL.1 hx).1;have o4:(i:Int)<(m1.s.ws.length:Int):=by omega
    have CS:=zab (fun (W:World) (hW:MAt W mb wb fv m1)=>zqS hW hi);obtain ⟨L,hL⟩:∃ L,m1.s.ws.length=L:=⟨_,rfl⟩;have HL:=zab hL;rw[hL]at o4;have c0:=H2.o.sat.c0;rw[hL]at c0;have cb:=Blk.cell B2.o 0;simp at cb;have cx:=H2.o.sat.word hx;clear aM hi hx hL br;go_wp2_with fail
    go_region_held3 (fun W=>W.cell? ⟨mb,0,none⟩=some (.slice (some ⟨wb,0,none⟩) L L)/\W.cell? ⟨w.heap.size,0,none⟩=some (.int .i64 k)/\W.cell? ⟨wb,i,none⟩=some (.int .i64 x)) (first|go_keep|(refine ⟨?_,?_,?_⟩ <;> assumption)) (first
     |(go_at_call 131;refine (CS.o _ (H2.o.drewN 1)).mono ?_;rintro e w3 ⟨rfl,k3,bL⟩;have H3:Hid (MAt w3 mb wb fv m1):=zab (by rw[bL];exact (H2.o.drewN 1).drewN k3);have F3:Hid (Fr (M2 mb wb) w2 w3):=zab (by rw[bL];exact ((Fr.refl _ _).drewN 1).drewN k3);have B3:=zab (Fr.blk B2.o (F3.o.zc9 fv) bW.o);have d0:w3.cell? ⟨mb,0,none⟩=some (.slice (some ⟨wb,0,none⟩) L L):=(by rw[H3.o.sat.c0,HL.o]);have db:w3.cell? ⟨w.heap.size,0,none⟩=some (.int .i64 k):=(by simpa using Blk.cell B3.o 0);have dx:=H3.o.sat.word pN.o;clear bL)
     |(go_at_call 76;refine (Sto.zb5 H3.o.sat je.o).mono ?_;rintro e w4 ⟨rfl,h4,f4⟩;have H4:=zab h4;have F4:=zab (F3.o.trans f4);have e0:w4.cell? ⟨mb,0,none⟩=some (.slice (some ⟨wb,0,none⟩) L L):=(by rw[h4.c0,zxF je.o,HL.o]);have eb:w4.cell? ⟨w.heap.size,0,none⟩=some (.int .i64 k):=(by simpa using Blk.cell (Fr.blk B3.o (f4.zc9 fv) bW.o) 0);have ex:=h4.word (zv2 je.o pN.o);clear h4 f4))
    all_goals
     go_wp2_with fail
     first|go_end0|refine bodyPost_ret (results_none rfl _ _ _) rfl ?_
     exact ⟨F2.o.trans (F4.o.zc9 fv),rfl,H2.o.fr2 H4.o F4.o⟩
theorem zhV{f:Nat}(h:MAt w mb wb fv m)(hb:m.zcW f=some r):
  Calls prog 81 #[.pointer (some ⟨mb,0,none⟩),.iface 250 (.agg #[.int .i64 f])] w fun e w'=>Ends w mb wb fv r e w':=by
 have i0:=zfR;have i1:=zc6;have H1:=zab (h.alloc (.cells #[.int .i64 f] 250));have B1:=zab (Blk.new w [.int .i64 f] 250);have F1:Hid (Fr (MB mb wb fv) w (w.alloc (.cells #[.int .i64 f] 250))):=zab ((Fr.refl _ _).alloc _);have bW:=zab (h.zc3 (zyN w.heap.size));clear h;go_enter func81,ntmps81
 go_wp2_with fail
 generalize w.alloc (.cells #[.int .i64 f] 250)=w1 at H1 F1 B1 ⊢;clear i0 i1;unfold MSt.zcW at hb;have CX:=zab (fun (q:Except Nat MSt) (hq:m.zdI 1=some q)=>zaW H1.o hq);unfold aft at hb;split at hb
 ·cases hb
 ·next j hn=>
  obtain rfl:=zyU hb;refine (CX.o _ hn).mono ?_;rintro e w7 ⟨f7,rfl,h7⟩;exact ⟨rfl,F1.o.trans f7,rfl,h7⟩
 ·next m1 hn=>
  refine (CX.o _ hn).mono ?_;rintro e w2 ⟨f2,rfl,h2⟩;have H2:=zab h2;have F2:=zab (F1.o.trans f2);have B2:=zab (Fr.blk B1.o f2 bW.o);clear h2 f2 hn CX B1 H1 F1;dsimp only at hb;split at hb
  ·cases hb
  ·next x hx=>
   simp only[MSt.put,zyX]at hb;obtain ⟨s4,aM,rfl⟩:=hb;have je:=zab aM;have br:=(zyL.1 hx).1;rcases H2.o.fat with ⟨_,ck⟩|⟨fb,cap,sp,rfl,oV,_⟩
   ·rw[ck]at hx;cases hx
   ·have o4:(f:Int)<(m1.fns.length:Int):=by omega
    have c8:=H2.o.sat.c8;have cb:=Blk.cell B2.o 0;simp at cb;have cx:=oV.word hx;have vA:=zab oV;have Da:=zab hx;clear aM hx br oV;go_wp2_with fail
    go_region_held3 (fun W=>W.cell? ⟨mb,8,none⟩=some (.slice (some ⟨fb,0,none⟩) m1.fns.length cap)/\W.cell? ⟨w.heap.size,0,none⟩=some (.int .i64 f)/\W.cell? ⟨fb,f,none⟩=some (.int .i64 x)) (first|go_keep|(refine ⟨?_,?_,?_⟩ <;> assumption)) ((go_at_call 76;refine (Sto.zb5 H2.o.sat.drew je.o).mono ?_;rintro e w4 ⟨rfl,h4,f4⟩;have H4:=zab h4;have F4:Hid (Fr (M2 mb wb) w2 w4):=zab ((Fr.refl _ _).drew.trans f4);have e0:=h4.c8;have eb:w4.cell? ⟨w.heap.size,0,none⟩=some (.int .i64 f):=(by simpa using Blk.cell (Fr.blk B2.o (F4.o.zc9 _) bW.o) 0);have ex:=(vA.o.fr F4.o).word Da.o;clear h4 f4))
    all_goals
     go_wp2_with fail
     first|go_end0|refine bodyPost_ret (results_none rfl _ _ _) rfl ?_
     exact ⟨F2.o.trans (F4.o.zc9 _),rfl,H2.o.fr2 H4.o F4.o⟩
theorem zuC(h:MAt w mb wb fv m)(hb:m.zcH 1 b=some r):
  Calls prog 81 #[.pointer (some ⟨mb,0,none⟩),.iface 263 (.agg #[.int .i64 b])] w fun e w'=>Ends w mb wb fv r e w':=by
 have i0:=zoI;have i1:=zfW;have i2:=zhr;have i3:=zoH;have i4:=zm7;have i5:=zke;have i6:=zoG;have i7:=zoJ;have H1:=zab (h.alloc (.cells #[.int .i64 b] 263));have B1:=zab (Blk.new w [.int .i64 b] 263);have F1:Hid (Fr (MB mb wb fv) w (w.alloc (.cells #[.int .i64 b] 263))):=zab ((Fr.refl _ _).alloc _);have bW:=zab (h.zc3 (zyN w.heap.size));clear h;go_enter func81,ntmps81
 go_wp2_with fail
 generalize w.alloc (.cells #[.int .i64 b] 263)=w1 at H1 F1 B1 ⊢;clear i0 i1 i2 i3 i4 i5 i6 i7;unfold MSt.zcH at hb;split at hb
 ·next iC=>
  have CX:=zab (fun (q:Except Nat MSt) (hq:m.zdI 1=some q)=>zaW H1.o hq);unfold aft at hb;split at hb
  ·cases hb
  ·next j hn=>
   obtain rfl:=zyU hb;refine (CX.o _ hn).mono ?_;rintro e w7 ⟨f7,rfl,h7⟩;exact ⟨rfl,F1.o.trans f7,rfl,h7⟩
  ·next m1 hn=>
   refine (CX.o _ hn).mono ?_;rintro e w2 ⟨f2,rfl,h2⟩;have H2:=zab h2;have F2:=zab (F1.o.trans f2);have B2:=zab (Fr.blk B1.o f2 bW.o);clear h2 f2 hn CX B1 H1 F1;dsimp only at hb;simp only[MSt.put,zyX]at hb;obtain ⟨s4,aM,rfl⟩:=hb;have CM:=zab (fun W:World=>ziQ 1 b W (by omega) iC);obtain ⟨z,hz⟩:∃ z,Mk 1 b=z:=⟨_,rfl⟩;rw[hz]at CM aM;have je:=zab aM;have cb:=Blk.cell B2.o 0;simp at cb;clear aM hz;go_wp2_with fail
   go_region_held3 (fun W=>W.cell? ⟨w.heap.size,0,none⟩=some (.int .i64 b)) (first|go_keep|assumption) (first
    |(go_at_call 138;refine (CM.o _).mono ?_;rintro e w3 ⟨rfl,bL⟩;subst w3)
    |(go_at_call 76;refine (Sto.zb5 H2.o.sat.drew je.o).mono ?_;rintro e w4 ⟨rfl,h4,f4⟩;have H4:=zab h4;have F4:Hid (Fr (M2 mb wb) w2 w4):=zab ((Fr.refl _ _).drew.trans f4);have eb:w4.cell? ⟨w.heap.size,0,none⟩=some (.int .i64 b):=(by simpa using Blk.cell (Fr.blk B2.o (F4.o.zc9 fv) bW.o) 0);clear h4 f4))
   all_goals
    go_wp2_with fail
    first|go_end0|refine bodyPost_ret (results_none rfl _ _ _) rfl ?_
    exact ⟨F2.o.trans (F4.o.zc9 fv),rfl,H2.o.fr2 H4.o F4.o⟩
 ·cases hb
theorem zhW(h:MAt w mb wb fv m)(hb:m.zcH 2 b=some r):
  Calls prog 81 #[.pointer (some ⟨mb,0,none⟩),.iface 267 (.agg #[.int .i64 b])] w fun e w'=>Ends w mb wb fv r e w':=by
 have i0:=zfU;have i1:=zc7;have i2:=zdu;have i3:=zfT;have i4:=zfe;have i5:=zet;have i6:=zfS;have i7:=zfV;have i8:=zc8;have H1:=zab (h.alloc (.cells #[.int .i64 b] 267));have B1:=zab (Blk.new w [.int .i64 b] 267);have F1:Hid (Fr (MB mb wb fv) w (w.alloc (.cells #[.int .i64 b] 267))):=zab ((Fr.refl _ _).alloc _);have bW:=zab (h.zc3 (zyN w.heap.size));clear h;go_enter func81,ntmps81
 go_wp2_with fail
 generalize w.alloc (.cells #[.int .i64 b] 267)=w1 at H1 F1 B1 ⊢;clear i0 i1 i2 i3 i4 i5 i6 i7 i8;unfold MSt.zcH at hb;split at hb
 ·next iC=>
  have CX:=zab (fun (q:Except Nat MSt) (hq:m.zdI 1=some q)=>zaW H1.o hq);unfold aft at hb;split at hb
  ·cases hb
  ·next j hn=>
   obtain rfl:=zyU hb;refine (CX.o _ hn).mono ?_;rintro e w7 ⟨f7,rfl,h7⟩;exact ⟨rfl,F1.o.trans f7,rfl,h7⟩
  ·next m1 hn=>
   refine (CX.o _ hn).mono ?_;rintro e w2 ⟨f2,rfl,h2⟩;have H2:=zab h2;have F2:=zab (F1.o.trans f2);have B2:=zab (Fr.blk B1.o f2 bW.o);clear h2 f2 hn CX B1 H1 F1;dsimp only at hb;simp only[MSt.put,zyX]at hb;obtain ⟨s4,aM,rfl⟩:=hb;have CM:=zab (fun W:World=>ziQ 2 b W (by omega) iC);obtain ⟨z,hz⟩:∃ z,Mk 2 b=z:=⟨_,rfl⟩;rw[hz]at CM aM;have je:=zab aM;have cb:=Blk.cell B2.o 0;simp at cb;clear aM hz;go_wp2_with fail
   go_region_held3 (fun W=>W.cell? ⟨w.heap.size,0,none⟩=some (.int .i64 b)) (first|go_keep|assumption) (first
    |(go_at_call 138;refine (CM.o _).mono ?_;rintro e w3 ⟨rfl,bL⟩;subst w3)
    |(go_at_call 76;refine (Sto.zb5 H2.o.sat.drew je.o).mono ?_;rintro e w4 ⟨rfl,h4,f4⟩;have H4:=zab h4;have F4:Hid (Fr (M2 mb wb) w2 w4):=zab ((Fr.refl _ _).drew.trans f4);have eb:w4.cell? ⟨w.heap.size,0,none⟩=some (.int .i64 b):=(by simpa using Blk.cell (Fr.blk B2.o (F4.o.zc9 fv) bW.o) 0);clear h4 f4))
   all_goals
    go_wp2_with fail
    first|go_end0|refine bodyPost_ret (results_none rfl _ _ _) rfl ?_
    exact ⟨F2.o.trans (F4.o.zc9 fv),rfl,H2.o.fr2 H4.o F4.o⟩
 ·cases hb
end Go.Proofs.YtgahgkddaljmkaaGreatDoor
