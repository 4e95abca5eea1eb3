/- Mach5 .. Mach10 -/
import Derived.Test.YtgahgkddaljmkaaGreatDoorW1
import Derived.Deep.LoopGhost
set_option maxRecDepth 100000
set_option maxHeartbeats 4000000
namespace Go.Proofs.YtgahgkddaljmkaaGreatDoor
open Tryz
open Go.RowKit
attribute [local go_sem ↓] Go.wp_at_zero Go.wp_at_succ
theorem zbe(b o j:Nat):(⟨b,o,none⟩:Addr).add j=⟨b,o+j,none⟩:=by simp[Addr.add]
def Sto.zbR (s:Sto):Sto:=
 let n:=s.low+s.half-s.top
 let t:=s.half-s.low+s.half-n
 { s with low:=s.half-s.low,free:=s.half-s.low,top:=t,ws:=splice s.ws t ((s.ws.drop s.top).take n) }
variable {w:World}
variable {mb wb:Nat}
variable {tl:List Value}
variable {s:Sto}
theorem zwy(h:SAt w mb wb tl s)(h1:s.low<=s.half)(h2:2*s.half<=s.ws.length)(h3:s.low<=s.top)(h4:s.top<=s.low+s.half):
  Calls prog 198 #[.pointer (some ⟨mb,0,none⟩)] w fun e w'=>e=.returned (.tuple #[])/\SAt w' mb wb tl s.zbR/\Fr (M2 mb wb) w w':=by
 obtain ⟨ws,hf,lo,fr,tp⟩:=s;simp only at h1 h2 h3 h4;have hlen:ws.length<=1000000:=h.len;have c0:w.cell? ⟨mb,0,none⟩=some (.slice (some ⟨wb,0,none⟩) ws.length ws.length):=h.c0;have c1:w.cell? ⟨mb,1,none⟩=some (.int .i64 hf):=h.c1;have c2:w.cell? ⟨mb,2,none⟩=some (.int .i64 lo):=h.c2;have c4:w.cell? ⟨mb,4,none⟩=some (.int .i64 tp):=h.c4;have f2:=h.blk.frozen 2;have CE:=zab (fun (n:Nat)=>zhJ (s:=⟨ws,hf,lo,fr,tp⟩) (w:=w.drewN n) ⟨h.blk,h.zeC,h.ne,h.len,h.half,h.low,h.free,h.top⟩);simp only[zzq]at CE;have HH:=zab h;have aA:(lo:Int)<=(hf:Int):=by omega
 have aw:(tp:Int)<=(lo:Int)+(hf:Int):=by omega
 have bD:(lo:Int)+(hf:Int)<=(ws.length:Int):=by omega
 clear h;go_enter func198,ntmps198
 go_wp2_with fail
 go_quiet ((go_at_call 78;exact Calls.quiet_of (CE.o _)))
 obtain ⟨oa,o7⟩:∃ oa,(if ws.length=tp then some (⟨wb,0,none⟩:Addr) else some ⟨wb,tp,none⟩)=oa:=⟨_,rfl⟩;rw[o7];have Co:=zab o7;have pE:Hid (Fr (M2 mb wb) w (w.drewN nq)):=zab ⟨rfl,rfl,rfl,zyN _,fun _ _ _=>rfl⟩;have H0:Hid (SAt (w.drewN nq) mb wb tl ⟨ws,hf,lo,fr,tp⟩):=zab ⟨HH.o.blk,HH.o.zeC,HH.o.ne,HH.o.len,HH.o.half,HH.o.low,HH.o.free,HH.o.top⟩;clear o7 CE HH c0 c1 c2 c4 f2;generalize w.drewN nq=w0 at pE H0;have c1:w0.cell? ⟨mb,1,none⟩=some (.int .i64 hf):=H0.o.c1;have c2:w0.cell? ⟨mb,2,none⟩=some (.int .i64 lo):=H0.o.c2;have f2:=H0.o.blk.frozen 2;obtain ⟨l2,aC⟩:∃ l2:Nat,hf-lo=l2:=⟨_,rfl⟩;obtain ⟨n,hn⟩:∃ n:Nat,lo+hf-tp=n:=⟨_,rfl⟩;obtain ⟨t,mi⟩:∃ t:Nat,l2+hf-n=t:=⟨_,rfl⟩;rw[hn];have HL:Hid (IntKind.i64.wrap ((hf:Int)-(lo:Int))=(l2:Int)):=zab (by rw[zbc _ (by omega) (by omega)];omega);have iJ:n<=hf:=by omega
 have C5:Hid ((l2:Int)+(hf:Int)-(n:Int)=(t:Int)):=zab (by omega);have tj:t+n=l2+hf:=by omega
 have EN:l2<=hf:=by omega
 have aJ:t+n<=ws.length:=by omega
 have HT:Hid ((⟨ws,hf,lo,fr,tp⟩:Sto).zbR=⟨splice ws t ((ws.drop tp).take n),hf,l2,l2,t⟩):=zab (by
  unfold Sto.zbR;simp only[aC,hn,mi])
 have dk:((ws.drop tp).take n).length=n:=by rw[zzf,zzu];omega
 have kG:Hid (0<n->oa=some ⟨wb,tp,none⟩):=zab (fun h0=>by rw[<-Co.o,if_neg (by omega)]);have Fh:tp+n<=ws.length:=by omega
 clear aC hn mi;go_wp2_with fail
 go_region_with (fail)
 all_goals
  rw[HL.o];have H1:=zab ((H0.o.zyw l2 (by omega)).drew);have F1:=zab ((pE.o.set ⟨mb,2,none⟩ (.int .i64 l2) (.inl (.inl rfl))).drew);generalize (w0.setCell ⟨mb,2,none⟩ (.int .i64 l2)).drew=w1 at H1 F1;clear c1 c2 f2;have c2:w1.cell? ⟨mb,2,none⟩=some (.int .i64 l2):=H1.o.c2;have c3:w1.cell? ⟨mb,3,none⟩=some (.int .i64 fr):=H1.o.c3;have f3:=H1.o.blk.frozen 3;have H2:=zab (H1.o.zjP l2 (by omega));have F2:=zab (F1.o.set ⟨mb,3,none⟩ (.int .i64 l2) (.inl (.inl rfl)));have CE:=zab (zhJ H2.o);go_wp2_with fail
  refine CE.o.mono ?_;rintro e w3 ⟨rfl,k3,bL⟩;have H3:Hid (SAt w3 mb wb tl ⟨ws,hf,l2,l2,tp⟩):=zab (by rw[bL];exact ⟨H2.o.blk,H2.o.zeC,H2.o.ne,H2.o.len,H2.o.half,H2.o.low,H2.o.free,H2.o.top⟩);have F3:Hid (Fr (M2 mb wb) w w3):=zab (by rw[bL];exact ⟨F2.o.os,F2.o.tape,F2.o.output,F2.o.size,F2.o.block⟩);clear bL c2 c3 f3 CE;have c4:w3.cell? ⟨mb,4,none⟩=some (.int .i64 tp):=H3.o.c4;have f4:=H3.o.blk.frozen 4;simp only[zzq];go_wp2_with fail
  rw[C5.o];have H4:=zab (H3.o.zlL t (by omega));have F4:=zab (F3.o.set ⟨mb,4,none⟩ (.int .i64 t) (.inl (.inl rfl)));generalize w3.setCell ⟨mb,4,none⟩ (.int .i64 t)=w4 at H4 F4;clear c4 f4;have d0:w4.cell? ⟨mb,0,none⟩=some (.slice (some ⟨wb,0,none⟩) ws.length ws.length):=H4.o.c0;have d4:w4.cell? ⟨mb,4,none⟩=some (.int .i64 t):=H4.o.c4;have od:(t:Int)<=(ws.length:Int):=by omega
  have mg:(0:Int)<=(t:Int):=by omega
  have pJ:Hid (0<((ws.drop tp).take n).length->∃ ad,oa=some ad/\∀ (j:Nat) x,((ws.drop tp).take n)[j]?=some x->w4.drew.cell? (ad.add j)=some (.int .i64 x)):=zab (fun h0=>by
   rw[dk]at h0;refine ⟨_,kG.o h0,fun j x hj=>?_⟩;have sA:j<n:=by
    have:=(zyL.1 hj).1;omega
   have hx:ws[tp+j]?=some x:=by
    rw[zzy,if_pos sA,zzx]at hj;exact hj
   rw[zbe];exact H4.o.drew.word hx)
  generalize (ws.drop tp).take n=xs at pJ HT dk;subst dk;by_cases hr:ws.length=t
  ·have hx:xs=[]:=zzt (by omega);subst hx
   go_region_held3 (fun W=>W.cell? ⟨mb,0,none⟩=some (.slice (some ⟨wb,0,none⟩) ws.length ws.length)/\W.cell? ⟨mb,4,none⟩=some (.int .i64 t)) (first|go_keep|(refine ⟨?_,?_⟩ <;> assumption)) (first
    |(refine za6 (by rfl) _ _ (by rfl) H4.o.drew _ _ _ _ _ _ (by rfl) (by rfl) [] (by simp) (fun h=>absurd h (by simp)) (by simp) ?_;intro w5 h5 f5;have H5:=zab h5;have F5:=zab f5;have e0:=h5.c0;have e4:=h5.c4;simp only[splice,zzR,zzb,zzY,zzm,zzO]at e0 e4;clear h5 f5))
   all_goals
    go_wp2_with fail
    go_end0
    refine ⟨rfl,?_,F4.o.trans ((Fr.refl _ _).drew.trans F5.o)⟩;rw[HT.o];have:=H5.o;simpa [splice] using this
  ·have aj:t<ws.length:=by omega
   go_region_held3 (fun W=>W.cell? ⟨mb,0,none⟩=some (.slice (some ⟨wb,0,none⟩) ws.length ws.length)/\W.cell? ⟨mb,4,none⟩=some (.int .i64 t)) (first|go_keep|(refine ⟨?_,?_⟩ <;> assumption)) (first
    |(refine za6 (by rfl) _ _ (by rfl) H4.o.drew t _ _ _ _ _ (by rfl) (by rfl) xs (by simp[Nat.min_def];omega) pJ.o aJ ?_;intro w5 h5 f5;have H5:=zab h5;have F5:=zab f5;have e0:=h5.c0;have e4:=h5.c4;simp only[zaY _ _ _ aJ]at e0 e4;clear h5 f5))
   all_goals
    go_wp2_with fail
    go_end0
    refine ⟨rfl,?_,F4.o.trans ((Fr.refl _ _).drew.trans F5.o)⟩;rw[HT.o];exact H5.o
theorem SAt.drewN{w:World}{mb wb:Nat}{tl:List Value}{s:Sto}(h:SAt w mb wb tl s)(n:Nat):SAt (w.drewN n) mb wb tl s:=⟨h.blk,h.zeC,h.ne,h.len,h.half,h.low,h.free,h.top⟩
theorem Fr.drewN{K:Nat->Prop}{a b:World}(h:Fr K a b)(n:Nat):Fr K a (b.drewN n):=⟨h.os,h.tape,h.output,h.size,h.block⟩
def behind (y:Int):Nat:=if y%16=0 then 1 else (y/16%4096).toNat
theorem zrl(h:SAt w mb wb tl s)(a b:Nat)(x y:Int)(hx:s.ws[a]?=some x)(cX:0<=x)(ee:x<9223372036854775808)(hb:(b:Int)=if x%16=4 then x/65536 else a)(hy:s.ws[b]?=some y)(aT:0<=y)(bE:y<9223372036854775808)(hf:y%16=5):
  Calls prog 254 #[.pointer (some ⟨mb,0,none⟩),.int .i64 a] w fun e w'=>e=.returned (.int .i64 (y/65536))/\SAt w' mb wb tl s/\Fr (M2 mb wb) w w':=by
 have c0:=h.c0;have ca:=h.word hx;have cb:=h.word hy;have ha:(a:Int)<(s.ws.length:Int):=by have:=(zyL.1 hx).1;omega
 have cV:(b:Int)<(s.ws.length:Int):=by have:=(zyL.1 hy).1;omega
 have Fy:(y%16 == 5)=true:=beq_iff_eq.2 hf;have K1:=zab (fun W:World=>za4 x W cX ee);have K2:=zab (fun W:World=>za4 y W aT bE);have W1:=zab (fun W:World=>zbw x W cX ee);have W2:=zab (fun W:World=>zbw y W aT bE);have HH:=zab h;clear h hx hy hf;by_cases hm:x%16=4
 ·rw[if_pos hm]at hb;have tF:(x%16 == 4)=true:=beq_iff_eq.2 hm;rw[<-hb]at W1;clear hm hb;go_enter func254,ntmps254
  go_wp2_with fail
  refine (K1.o _).mono ?_;rintro e w1 ⟨rfl,rfl⟩;go_wp2_with fail
  refine (W1.o _).mono ?_;rintro e w1 ⟨rfl,rfl⟩;go_wp2_with fail
  refine (K2.o _).mono ?_;rintro e w1 ⟨rfl,rfl⟩;go_wp2_with fail
  refine (W2.o _).mono ?_;rintro e w1 ⟨rfl,rfl⟩;go_wp2_with fail
  go_ret
  exact ⟨rfl,HH.o,Fr.refl _ _⟩
 ·rw[if_neg hm]at hb;have tF:(x%16 == 4)=false:=beq_eq_false_iff_ne.2 hm;obtain rfl:b=a:=by omega
  have yk:x=y:=by
   have:=ca.symm.trans cb;simpa using this
  subst yk;clear hm hb;go_enter func254,ntmps254
  go_wp2_with fail
  refine (K1.o _).mono ?_;rintro e w1 ⟨rfl,rfl⟩;go_wp2_with fail
  refine (K2.o _).mono ?_;rintro e w1 ⟨rfl,rfl⟩;go_wp2_with fail
  refine (W2.o _).mono ?_;rintro e w1 ⟨rfl,rfl⟩;go_wp2_with fail
  go_ret
  exact ⟨rfl,HH.o,Fr.refl _ _⟩
theorem zrm(h:SAt w mb wb tl s)(a b:Nat)(x y:Int)(hx:s.ws[a]?=some x)(cX:0<=x)(ee:x<9223372036854775808)(hb:(b:Int)=if x%16=4 then x/65536 else a)(hy:s.ws[b]?=some y)(aT:0<=y)(bE:y<9223372036854775808)(hf:y%16≠5)(hn:b+1+behind y<=s.ws.length)(ak:s.free+1+behind y<=s.ws.length)(hd:s.free<b+1\/b+1+behind y<=s.free):
  Calls prog 254 #[.pointer (some ⟨mb,0,none⟩),.int .i64 a] w fun e w'=>e=.returned (.int .i64 s.free) /\
   SAt w' mb wb tl { s with free:=s.free+1+behind y,ws:=(splice (s.ws.set s.free y) (s.free+1) ((s.ws.drop (b+1)).take (behind y))).set b (Hd 5 s.free 0) }/\Fr (M2 mb wb) w w':=by
 obtain ⟨ws,uJ,lo,fr,tp⟩:=s;simp only at hx hy hn ak hd ⊢;have hlen:ws.length<=1000000:=h.len;have c0:w.cell? ⟨mb,0,none⟩=some (.slice (some ⟨wb,0,none⟩) ws.length ws.length):=h.c0;have ca:w.cell? ⟨wb,a,none⟩=some (.int .i64 x):=h.word hx;have cb:w.cell? ⟨wb,b,none⟩=some (.int .i64 y):=h.word hy;have ha:(a:Int)<(ws.length:Int):=by have:=(zyL.1 hx).1;omega
 have cV:(b:Int)<(ws.length:Int):=by omega
 have Fy:(y%16 == 5)=false:=beq_eq_false_iff_ne.2 hf;have K1:=zab (fun W:World=>za4 x W cX ee);have K2:=zab (fun W:World=>za4 y W aT bE);have W1:=zab (fun W:World=>zbw x W cX ee);have SZ:=zab (fun W:World=>zlQ y W aT bE);obtain ⟨n,iZ⟩:∃ n,behind y=n:=⟨_,rfl⟩;rw[show (if y%16=0 then 2 else 1+y/16%4096)=((n+1:Nat):Int) by rw[<-iZ,behind];split <;> omega]at SZ;simp only[zzq,Int.natCast_one]at SZ;rw[iZ]at hn ak hd ⊢;have dk:((ws.drop (b+1)).take n).length=n:=by rw[zzf,zzu];omega
 have HD:=zab (fun W:World=>zbt 5 fr 0 W (by omega) (by omega) (by omega));have CN:Hid (∀ W:World,SAt W mb wb tl ⟨ws,uJ,lo,fr,tp⟩->Fr (M2 mb wb) w W->Calls prog 74 #[.pointer (some ⟨mb,0,none⟩),.int .i64 y,.slice (if ws.length=b+1 then some ⟨wb,0,none⟩ else some ⟨wb,b+1,none⟩) n (ws.length-(b+1))] W fun e w'=>e=.returned (.int .i64 fr)/\SAt w' mb wb tl ⟨splice (ws.set fr y) (fr+1) ((ws.drop (b+1)).take n),uJ,lo,fr+1+n,tp⟩/\Fr (M2 mb wb) W w'):=zab (fun W hW _=>by
  have:=zej hW y ((ws.drop (b+1)).take n) (if ws.length=b+1 then some ⟨wb,0,none⟩ else some ⟨wb,b+1,none⟩) (ws.length-(b+1)) (by rw[dk];exact ak) (fun h0=>by
   rw[dk]at h0;refine ⟨_,if_neg (by omega),fun W2 h2 _ j x hj=>?_⟩;have sA:j<n:=by
    have:=(zyL.1 hj).1;omega
   rw[zzy,if_pos sA,zzx]at hj;rw[zbe];refine h2.word ?_;show (ws.set fr y)[b+1+j]?=some x;rw[zAo (by omega)];exact hj)
  simp only[dk]at this;exact this)
 have aJ:fr+1+((ws.drop (b+1)).take n).length<=(ws.set fr y).length:=by rw[dk,zy6];exact ak
 have HH:=zab h;have fP:=zcj h.ne;have sR:(0:Int)<=(b:Int)+1:=by omega
 have cF:(b:Int)+1<=(b:Int)+((n:Int)+1):=by omega
 have bC:(b:Int)+((n:Int)+1)<=(ws.length:Int):=by omega
 have aD:IntKind.i64.wrap ((b:Int)+1)=(b:Int)+1:=zbc _ (by omega) (by omega);have aB:IntKind.i64.wrap ((b:Int)+((n:Int)+1))=(b:Int)+((n:Int)+1):=zbc _ (by omega) (by omega);obtain ⟨oa,o7⟩:∃ oa,(if ws.length=b+1 then some (⟨wb,0,none⟩:Addr) else some ⟨wb,b+1,none⟩)=oa:=⟨_,rfl⟩;have py:∀ W:World,(Instr.slice 76 (.slice (some ⟨wb,0,none⟩) ws.length ws.length) (some (.int .i64 ((b:Int)+1))) (some (.int .i64 ((b:Int)+((n:Int)+1)))) none).run prog W=.ok (.slice oa n (ws.length-(b+1))) W:=by
  intro W;rw[run_slice_lh W 76 _ _ _ underlying76 .i64 .i64 _ _ sR cF bC,<-o7];have e1:((b:Int)+1).toNat=b+1:=by omega
  have e2:((b:Int)+((n:Int)+1)).toNat=b+(n+1):=by omega
  have e3:prog.elem 76=2:=by kernel_rfl
  rw[e3,sizeOf2];simp only[Result.andThen,sliced,e1,e2,zAt,zzP,zbe,zzG];rw[show b+(n+1)-(b+1)=n by omega]
 rw[o7]at CN;clear o7;have kf:(0:Int)<=(b:Int):=by omega
 generalize (ws.drop (b+1)).take n=xs at CN aJ dk;clear h hx hy hf iZ hn hd dk;by_cases hm:x%16=4
 ·rw[if_pos hm]at hb;have tF:(x%16 == 4)=true:=beq_iff_eq.2 hm;rw[<-hb]at W1;clear hm hb;go_enter func254,ntmps254
  go_wp2_with fail
  refine (K1.o _).mono ?_;rintro e w1 ⟨rfl,rfl⟩;go_wp2_with fail
  refine (W1.o _).mono ?_;rintro e w1 ⟨rfl,rfl⟩;go_wp2_with fail
  refine (K2.o _).mono ?_;rintro e w1 ⟨rfl,rfl⟩;go_wp2_with fail
  go_region_held3 (fun W=>W.cell? ⟨mb,0,none⟩=some (.slice (some ⟨wb,0,none⟩) ws.length ws.length)) (first|go_keep|assumption) (first
   |(go_at_call 200;refine (SZ.o _).mono ?_;rintro e w1 ⟨rfl,rfl⟩)
   |(go_at_call 74;refine (CN.o _ HH.o.drew (Fr.refl _ _).drew).mono ?_;rintro e w3 ⟨rfl,h3,f3⟩;have H3:=zab h3;have F3:=zab ((Fr.refl _ _).drew.trans f3);have e0:=h3.c0;simp only[zaY _ _ _ aJ,zy6]at e0;clear h3 f3))
  all_goals
   go_wp2_with fail
   have e1:=H3.o.zko (i:=b) (by rw[zaY _ _ _ aJ,zy6];omega);have g1:=H3.o.zeC.frozen b;clear c0 ca cb
   go_region_held3 (fun W=>W.cell? ⟨mb,0,none⟩=some (.slice (some ⟨wb,0,none⟩) ws.length ws.length)) (first|go_keep|assumption) (first
    |(go_at_call 75;refine (HD.o _).mono ?_;rintro e w4 ⟨rfl,rfl⟩))
   all_goals
    go_wp2_with fail
    go_ret
    exact ⟨rfl,H3.o.drew.zcB b _,F3.o.drew.set _ _ (.inl (.inr rfl))⟩
 ·rw[if_neg hm]at hb;have tF:(x%16 == 4)=false:=beq_eq_false_iff_ne.2 hm;obtain rfl:b=a:=by omega
  have yk:x=y:=by
   have:=ca.symm.trans cb;simpa using this
  subst yk;clear hm hb;go_enter func254,ntmps254
  go_wp2_with fail
  refine (K1.o _).mono ?_;rintro e w1 ⟨rfl,rfl⟩;go_wp2_with fail
  refine (K2.o _).mono ?_;rintro e w1 ⟨rfl,rfl⟩;go_wp2_with fail
  go_region_held3 (fun W=>W.cell? ⟨mb,0,none⟩=some (.slice (some ⟨wb,0,none⟩) ws.length ws.length)) (first|go_keep|assumption) (first
   |(go_at_call 200;refine (SZ.o _).mono ?_;rintro e w1 ⟨rfl,rfl⟩)
   |(go_at_call 74;refine (CN.o _ HH.o.drew (Fr.refl _ _).drew).mono ?_;rintro e w3 ⟨rfl,h3,f3⟩;have H3:=zab h3;have F3:=zab ((Fr.refl _ _).drew.trans f3);have e0:=h3.c0;simp only[zaY _ _ _ aJ,zy6]at e0;clear h3 f3))
  all_goals
   go_wp2_with fail
   have e1:=H3.o.zko (i:=b) (by rw[zaY _ _ _ aJ,zy6];omega);have g1:=H3.o.zeC.frozen b;clear c0 ca cb
   go_region_held3 (fun W=>W.cell? ⟨mb,0,none⟩=some (.slice (some ⟨wb,0,none⟩) ws.length ws.length)) (first|go_keep|assumption) (first
    |(go_at_call 75;refine (HD.o _).mono ?_;rintro e w4 ⟨rfl,rfl⟩))
   all_goals
    go_wp2_with fail
    go_ret
    exact ⟨rfl,H3.o.drew.zcB b _,F3.o.drew.set _ _ (.inl (.inr rfl))⟩
def Sto.zgR (s:Sto) (a:Nat):Option (Nat × Sto):=
 match s.ws[a]? with
 |none=>none
 |some x=>
  if x<0\/9223372036854775808<=x then none else
  match s.ws[if x%16=4 then (x/65536).toNat else a]? with
  |none=>none
  |some y=>
   if y<0\/9223372036854775808<=y then none
   else if y%16=5 then some ((y/65536).toNat,s)
   else if (if x%16=4 then (x/65536).toNat else a)+1+behind y<=s.ws.length/\s.free+1+behind y<=s.ws.length/\(s.free<(if x%16=4 then (x/65536).toNat else a)+1\/(if x%16=4 then (x/65536).toNat else a)+1+behind y<=s.free) then
    some (s.free,{ s with free:=s.free+1+behind y,ws:=(splice (s.ws.set s.free y) (s.free+1) ((s.ws.drop ((if x%16=4 then (x/65536).toNat else a)+1)).take (behind y))).set (if x%16=4 then (x/65536).toNat else a) (Hd 5 s.free 0) })
   else none
variable {s':Sto}
variable {r:Nat}
theorem zft{a:Nat}(hc:s.zgR a=some (r,s')):∃ (x y:Int) (b:Nat),s.ws[a]?=some x/\0<=x/\x<9223372036854775808/\((b:Int)=if x%16=4 then x/65536 else a)/\s.ws[b]?=some y/\0<=y/\y<9223372036854775808 /\
  ((y%16=5/\(r:Int)=y/65536/\s'=s)\/(y%16≠5/\b+1+behind y<=s.ws.length/\s.free+1+behind y<=s.ws.length/\(s.free<b+1\/b+1+behind y<=s.free)/\r=s.free /\
   s'={ s with free:=s.free+1+behind y,ws:=(splice (s.ws.set s.free y) (s.free+1) ((s.ws.drop (b+1)).take (behind y))).set b (Hd 5 s.free 0) })):=by
 unfold Sto.zgR at hc;split at hc
 ·cases hc
 ·next x hx=>
  split at hc
  ·cases hc
  ·next cX=>
   obtain ⟨b,hb⟩:∃ b,(if x%16=4 then (x/65536).toNat else a)=b:=⟨_,rfl⟩;rw[hb]at hc;have pR:(b:Int)=if x%16=4 then x/65536 else a:=by
    rw[<-hb];split <;> omega
   split at hc
   ·cases hc
   ·next y hy=>
    split at hc
    ·cases hc
    ·next aT=>
     refine ⟨x,y,b,hx,by omega,by omega,pR,hy,by omega,by omega,?_⟩;split at hc
     ·next hf=>
      simp only[zyP,zzL]at hc;exact .inl ⟨hf,by omega,hc.2.symm⟩
     ·next hf=>
      split at hc
      ·next hg=>
       simp only[zyP,zzL]at hc;exact .inr ⟨hf,hg.1,hg.2.1,hg.2.2,hc.1.symm,hc.2.symm⟩
      ·cases hc
theorem zlk(h:SAt w mb wb tl s){a:Nat}(hc:s.zgR a=some (r,s')):
  Calls prog 254 #[.pointer (some ⟨mb,0,none⟩),.int .i64 a] w fun e w'=>e=.returned (.int .i64 r)/\SAt w' mb wb tl s'/\Fr (M2 mb wb) w w':=by
 obtain ⟨x,y,b,hx,cX,ee,hb,hy,aT,bE,⟨hf,hr,rfl⟩|⟨hf,g1,g2,g3,rfl,rfl⟩⟩:=zft hc
 ·rw[hr];exact zrl h a b x y hx cX ee hb hy aT bE hf
 ·exact zrm h a b x y hx cX ee hb hy aT bE hf g1 g2 g3
theorem zhI{a:Nat}(hc:s.zgR a=some (r,s')):s'.ws.length=s.ws.length:=by
 obtain ⟨x,y,b,hx,cX,ee,hb,hy,aT,bE,⟨hf,hr,rfl⟩|⟨hf,g1,g2,g3,rfl,rfl⟩⟩:=zft hc
 ·rfl
 ·rw[zy6,zaY,zy6];rw[zy6,zzf];omega
def Sto.zfI (s:Sto) (o:Nat):Nat->Option Sto
 |0=>some s
 |n+1=>
  match s.ws[o]? with
  |none=>none
  |some x=>if x<0 then Sto.zfI s (o+1) n else
   match s.zgR x.toNat with
   |none=>none
   |some (r,s1)=>Sto.zfI { s1 with ws:=s1.ws.set o r } (o+1) n
theorem zi5(h:SAt w mb wb tl s){o n cp:Nat}{sp:Option Addr}(hb:s.zfI o n=some s')(eB:0<n->sp=some ⟨wb,o,none⟩)(xT:o+n<=s.ws.length):
  Calls prog 199 #[.pointer (some ⟨mb,0,none⟩),.slice sp n cp] w fun e w'=>e=.returned (.tuple #[])/\SAt w' mb wb tl s'/\Fr (M2 mb wb) w w':=by
 have hlen:=h.len;rcases Nat.eq_zero_or_pos n with hn|hn
 ·subst hn;simp only[Sto.zfI,zyP]at hb;subst hb;have HH:=zab h;clear h eB;go_enter func199,ntmps199
  go_wp2_with fail
  refine wp_loop_rounds 1 ?_;rw[rounds_succ];go_wp2_with fail
  go_end0
  exact ⟨rfl,HH.o,Fr.refl _ _⟩
 ·obtain rfl:=eB hn;have HH:=zab h;have HB:=zab hb;obtain ⟨L,hL⟩:∃ L,s.ws.length=L:=⟨_,rfl⟩;rw[hL]at xT hlen;have HL:=zab hL;clear h hb eB hn hL;go_enter func199,ntmps199
  go_wp2_with fail
  go_loopg [8] n (fun gk iv wr=>∃ (i:Nat) (s1:Sto),iv=.int .i64 i/\i<=n/\n-i<=gk/\SAt wr mb wb tl s1/\s1.ws.length=L/\s1.zfI (o+i) (n-i)=some s'/\Fr (M2 mb wb) w wr)
  case atStart=>exact ⟨0,s,rfl,zy5 _,by omega,HH.o,HL.o,HB.o,Fr.refl _ _⟩
  case round=>
   obtain ⟨i,s1,rfl,hi,jm,h1,aL,aA,l8⟩:=hrel;have H1:=zab h1;have HF:=zab l8;by_cases aj:i<n
   ·obtain ⟨m,hm⟩:∃ m,n-i=m+1:=⟨n-i-1,by omega⟩;rw[hm,Sto.zfI]at aA;have br:o+i<s1.ws.length:=by omega
    rw[zyM br]at aA;simp only at aA;obtain ⟨x,hx⟩:∃ x,s1.ws[o+i]=x:=⟨_,rfl⟩;rw[hx]at aA;have cx:wr.cell? ⟨wb,o+i,none⟩=some (.int .i64 x):=by rw[<-hx];exact h1.zko br
    have aw:(0:Int)<=(i:Int):=by omega
    have bD:(i:Int)<(n:Int):=by omega
    by_cases dV:x<0
    ·rw[if_pos dV]at aA;have cB:=zab aA;have Cm:=zab aL;clear h1 l8 aA aL hx;go_wp2_with fail
     go_roundg (n-(i+1))
     case measure=>omega
     case rel=>exact ⟨i+1,s1,by go_num,by omega,zyN _,H1.o,Cm.o,by rw[show n-(i+1)=m by omega];exact cB.o,HF.o⟩
    ·rw[if_neg dV]at aA;split at aA
     ·cases aA
     ·next r s2 hc=>
      have CC:=zlk h1 hc;rw[show ((x.toNat:Nat):Int)=x by omega]at CC;have HC:=zab CC;have kC:=zab ((zhI hc).trans aL);have cB:=zab aA;have bp:¬ x<0:=dV;clear CC h1 l8 aA aL hx hc dV;go_wp2_with fail
      refine HC.o.mono ?_;rintro e w2 ⟨rfl,h2,f2⟩;have H2:=zab h2;have F2:=zab (HF.o.trans f2);have e1:=h2.zko (i:=o+i) (by rw[kC.o];omega);have g1:=h2.zeC.frozen (o+i);clear h2 f2 cx;go_wp2_with fail
      go_roundg (n-(i+1))
      case measure=>omega
      case rel=>exact ⟨i+1,_,by go_num,by omega,zyN _,H2.o.zcB (o+i) r,by rw[zy6];exact kC.o,by rw[show n-(i+1)=m by omega];exact cB.o,F2.o.set _ _ (.inl (.inr rfl))⟩
   ·have hin:i=n:=by omega
    have cB:Hid (s1=s'):=zab (by
     rw[hin,zAx,Sto.zfI]at aA;exact zyU aA)
    clear h1 l8 aA aL hin;go_wp2_with fail
    go_end0
    exact ⟨rfl,by rw[<-cB.o];exact H1.o,HF.o⟩
def M3 (mb wb fb:Nat):Nat->Prop:=fun k=>k=mb\/k=wb\/k=fb
variable {a b:World}
theorem Fr.to3(h:Fr (M2 mb wb) a b)(fb:Nat):Fr (M3 mb wb fb) a b:=h.mono (fun i hi=>by rcases hi with rfl|rfl;exact .inl rfl;exact .inr (.inl rfl))
def FAt (w:World) (mb wb fb:Nat) (fns:List Int) (sp:List Value):Prop:=Blk w fb (zdG fns++sp) 2/\fb≠mb/\fb≠wb
variable {fb:Nat}
variable {fns:List Int}
variable {sp:List Value}
theorem FAt.fr{w':World}(h:FAt w mb wb fb fns sp)(f:Fr (M2 mb wb) w w'):FAt w' mb wb fb fns sp:=
 ⟨Fr.blk h.1 f (by intro k;rcases k with k|k;exact h.2.1 k;exact h.2.2 k),h.2⟩
theorem FAt.word(h:FAt w mb wb fb fns sp){i:Nat}{x:Int}(hx:fns[i]?=some x):w.cell? ⟨fb,i,none⟩=some (.int .i64 x):=by
 have hl:i<fns.length:=(zyL.1 hx).1;rw[h.1.cell,zzc (by rw[zbJ];exact hl),zgY,hx];rfl
theorem FAt.set{w:World}{mb wb fb:Nat}{fns:List Int}{sp:List Value}(h:FAt w mb wb fb fns sp){i:Nat}(hi:i<fns.length)(x:Int):FAt (w.setCell ⟨fb,i,none⟩ (.int .i64 x)) mb wb fb (fns.set i x) sp:=by
 refine ⟨?_,h.2⟩;have:=h.1.set i (.int .i64 x);rw[List.set_append_left _ _ (by rw[zbJ];exact hi),show (zdG fns).set i (.int .i64 x)=zdG (fns.set i x) from by simp[zdG,List.map_set]]at this;exact this
theorem SAt.other{w:World}{mb wb:Nat}{tl:List Value}{s:Sto}(h:SAt w mb wb tl s){fb:Nat}(h1:fb≠mb)(h2:fb≠wb)(i:Nat)(v:Value):SAt (w.setCell ⟨fb,i,none⟩ v) mb wb tl s:=
 ⟨h.blk.other _ _ h1.symm,h.zeC.other _ _ h2.symm,h.ne,h.len,h.half,h.low,h.free,h.top⟩
def Sto.zdP (s:Sto):List Int->Option (List Int × Sto)
 |[]=>some ([],s)
 |x::r=>if x<0 then none else
  match s.zgR x.toNat with
  |none=>none
  |some (y,s1)=>
   match Sto.zdP s1 r with
   |none=>none
   |some (l,s2)=>some ((y:Int)::l,s2)
variable {cI:List Int}
theorem zrd(h:SAt w mb wb tl s)(hf:FAt w mb wb fb fns sp){cp:Nat}(hb:s.zdP fns=some (cI,s'))(bZ:fns.length<=1000000):
  Calls prog 199 #[.pointer (some ⟨mb,0,none⟩),.slice (some ⟨fb,0,none⟩) fns.length cp] w fun e w'=>e=.returned (.tuple #[])/\SAt w' mb wb tl s'/\FAt w' mb wb fb cI sp/\Fr (M3 mb wb fb) w w':=by
 have HH:=zab h;have pE:=zab hf;have HB:=zab hb;have Es:=hf.2.1;have gr:=hf.2.2;obtain ⟨n,hn⟩:∃ n,fns.length=n:=⟨_,rfl⟩;rw[hn]at bZ ⊢;have HN:=zab hn;clear h hb hf hn;go_enter func199,ntmps199
 go_wp2_with fail
 go_loopg [8] n (fun gk iv wr=>∃ (i:Nat) (s1:Sto) (d r l:List Int),iv=.int .i64 i/\i<=n/\n-i<=gk/\SAt wr mb wb tl s1/\d.length=i/\r.length=n-i/\FAt wr mb wb fb (d++r) sp/\s1.zdP r=some (l,s')/\cI=d++l/\Fr (M3 mb wb fb) w wr)
 case atStart=>exact ⟨0,s,[],fns,cI,rfl,zy5 _,by omega,HH.o,rfl,HN.o,pE.o,HB.o,rfl,Fr.refl _ _⟩
 case round=>
  obtain ⟨i,s1,d,r,l,rfl,hi,jm,h1,hd,hr,l8,aA,hl,ak⟩:=hrel;have H1:=zab h1;have HF:=zab ak;have ub:=zab l8;by_cases aj:i<n
  ·cases r with
   |nil=>simp at hr;omega
   |cons x r=>
    rw[Sto.zdP]at aA;split at aA
    ·cases aA
    ·next dV=>
     split at aA
     ·cases aA
     ·next y s2 hc=>
      split at aA
      ·cases aA
      ·next l2 s3 fR=>
       simp only[zyP,zzL]at aA;obtain ⟨rfl,rfl⟩:=aA;have cx:wr.cell? ⟨fb,i,none⟩=some (.int .i64 x):=l8.word (by rw[zy3 (by omega),hd];simp);have CC:=zlk h1 hc;rw[show ((x.toNat:Nat):Int)=x by omega]at CC;have HC:=zab CC;have HR:=zab fR;have HL:=zab hl;have HD:=zab hd;have CJ:Hid (r.length=n-(i+1)):=zab (by simp at hr;omega);have aw:(0:Int)<=(i:Int):=by omega
       have bD:(i:Int)<(n:Int):=by omega
       have HI:Hid (i<(d++x::r).length):=zab (by simp;omega);clear CC h1 ak fR hl hd hr l8 hc;go_wp2_with fail
       refine HC.o.mono ?_;rintro e w2 ⟨rfl,h2,f2⟩;have H2:=zab h2;have vl:=zab (ub.o.fr f2);have F2:=zab (HF.o.trans (f2.to3 fb));have e1:=vl.o.word (i:=i) (x:=x) (by rw[zy3 (by rw[HD.o];exact zyN _),HD.o];simp);have g1:=vl.o.1.frozen i;clear h2 f2 cx;go_wp2_with fail
       go_roundg (n-(i+1))
       case measure=>omega
       case rel=>
        have cS:(d++x::r).set i (y:Int)=(d++[(y:Int)])++r:=by
         rw[List.set_append_right _ _ (by rw[HD.o];exact zyN _),HD.o];simp
        refine ⟨i+1,s2,d++[(y:Int)],r,l2,by go_num,by omega,zyN _,H2.o.other Es gr i _,by simp;exact HD.o,CJ.o,?_,HR.o,by rw[HL.o];simp,F2.o.set _ _ (.inl (.inr (.inr rfl)))⟩;have:=vl.o.set HI.o y;rw[cS]at this;exact this
  ·have hin:i=n:=by omega
   have cB:Hid (s1=s'/\cI=d++r):=zab (by
    have fQ:r=[]:=zzt (by omega);subst fQ;simp only[Sto.zdP,zyP,zzL]at aA;exact ⟨aA.2,by rw[hl,<-aA.1]⟩)
   clear h1 ak aA hin hd hr l8 hl;go_wp2_with fail
   go_end0
   exact ⟨rfl,by rw[<-cB.o.1];exact H1.o,by rw[cB.o.2];exact ub.o,HF.o⟩
structure Oth where
 pb:Value
 nf:Int
 main:Int
 fuel:Nat
 next:Int
 below:Int
def zeu (o:Oth) (fv:Value):List Value:=[o.pb,.int .i64 o.nf,.int .i64 o.main,fv,.int .i64 o.fuel,.int .i64 o.next,.int .i64 o.below]
def zo4 (w:World) (mb wb:Nat) (fns:List Int) (fv:Value):Prop:=(fv=.slice none 0 0/\fns=[])\/∃ fb cap sp,fv=.slice (some ⟨fb,0,none⟩) fns.length cap/\FAt w mb wb fb fns sp/\fns.length+sp.length=cap/\cap<=maxLen
def MB (mb wb:Nat) (fv:Value):Nat->Prop:=fun k=>k=mb\/k=wb\/fv.ownBlock=some k
theorem Fr.zc9(h:Fr (M2 mb wb) a b)(fv:Value):Fr (MB mb wb fv) a b:=h.mono (fun i hi=>by rcases hi with rfl|rfl;exact .inl rfl;exact .inr (.inl rfl))
theorem zo4.fr{w w':World}{mb wb:Nat}{fns:List Int}{fv:Value}(h:zo4 w mb wb fns fv)(f:Fr (M2 mb wb) w w'):zo4 w' mb wb fns fv:=by
 rcases h with h|⟨fb,cap,sp,h1,h2,h3⟩
 ·exact .inl h
 ·exact .inr ⟨fb,cap,sp,h1,h2.fr f,h3⟩
def Sto.scan (s:Sto) (at_:Nat):Nat->Option Sto
 |0=>none
 |k+1=>if at_<s.free then
   match s.ws[at_]? with
   |none=>none
   |some x=>if x<0\/9223372036854775808<=x\/s.ws.length<at_+1+(x/16%4096).toNat then none else
    match s.zfI (at_+1) (x/16%4096).toNat with
    |none=>none
    |some s1=>
     match s1.ws[at_]? with
     |none=>none
     |some y=>if y<0\/9223372036854775808<=y then none else Sto.scan s1 (at_+1+behind y) k
  else some s
def Sto.collect (s:Sto) (fns:List Int):Option (List Int × Sto):=
 if s.low<=s.half/\2*s.half<=s.ws.length/\s.low<=s.top/\s.top<=s.low+s.half then
  match s.zbR.zfI s.zbR.top (s.zbR.low+s.zbR.half-s.zbR.top) with
  |none=>none
  |some s1=>
   match s1.zdP fns with
   |none=>none
   |some (cI,s2)=>
    match s2.scan s2.low (s2.ws.length+1) with
    |none=>none
    |some s3=>some (cI,s3)
 else none
theorem zgO :∀ {n o:Nat},s.zfI o n=some s'->s'.ws.length=s.ws.length/\s'.low=s.low/\s'.half=s.half/\s'.top=s.top:=by
 intro n
 induction n generalizing s with
 |zero=>intro o h;simp only[Sto.zfI,zyP]at h;subst h;exact ⟨rfl,rfl,rfl,rfl⟩
 |succ n ih=>
  intro o h;rw[Sto.zfI]at h;split at h
  ·cases h
  ·split at h
   ·exact ih h
   ·split at h
    ·cases h
    ·next r s1 hc=>
     have h1:=ih h;have h2:=zhI hc;simp only[zy6]at h1;obtain ⟨x,y,b,_,_,_,_,_,_,_,⟨_,_,rfl⟩|⟨_,_,_,_,_,rfl⟩⟩:=zft hc
     ·exact h1
     ·exact ⟨h1.1.trans h2,h1.2⟩
theorem zdQ :∀ {fns:List Int} {s:Sto} {l:List Int},s.zdP fns=some (l,s')->s'.ws.length=s.ws.length/\s'.low=s.low/\s'.half=s.half/\s'.top=s.top/\l.length=fns.length:=by
 intro fns
 induction fns with
 |nil=>intro s l h;simp only[Sto.zdP,zyP,zzL]at h;obtain ⟨rfl,rfl⟩:=h;exact ⟨rfl,rfl,rfl,rfl,rfl⟩
 |cons x r ih=>
  intro s l h;rw[Sto.zdP]at h;split at h
  ·cases h
  ·split at h
   ·cases h
   ·next y s1 hc=>
    split at h
    ·cases h
    ·next l2 s2 hr=>
     simp only[zyP,zzL]at h;obtain ⟨rfl,rfl⟩:=h;have h1:=ih hr;have h2:=zhI hc;obtain ⟨x,y,b,_,_,_,_,_,_,_,⟨_,_,rfl⟩|⟨_,_,_,_,_,rfl⟩⟩:=zft hc
     ·exact ⟨h1.1,h1.2.1,h1.2.2.1,h1.2.2.2.1,by simp[h1.2.2.2.2]⟩
     ·exact ⟨h1.1.trans h2,h1.2.1,h1.2.2.1,h1.2.2.2.1,by simp[h1.2.2.2.2]⟩
variable {o:Oth}
variable {fv:Value}
theorem zpf(h:SAt w mb wb (zeu o fv) s)(hf:zo4 w mb wb fns fv)(hb:s.zdP fns=some (cI,s'))(bZ:fns.length<=1000000):
  Calls prog 199 #[.pointer (some ⟨mb,0,none⟩),fv] w fun e w'=>e=.returned (.tuple #[])/\SAt w' mb wb (zeu o fv) s'/\zo4 w' mb wb cI fv/\Fr (MB mb wb fv) w w':=by
 rcases hf with ⟨rfl,rfl⟩|⟨fb,cap,sp,rfl,hf,kS⟩
 ·simp only[Sto.zdP,zyP,zzL]at hb;obtain ⟨rfl,rfl⟩:=hb;exact (zi5 (o:=0) (n:=0) (sp:=none) (cp:=0) h rfl (fun h=>absurd h (by omega)) (by omega)).mono fun e w' ⟨h1,h2,h3⟩=>⟨h1,h2,.inl ⟨rfl,rfl⟩,h3.zc9 _⟩
 ·exact (zrd h hf hb bZ).mono fun e w' ⟨h1,h2,h3,h4⟩=>⟨h1,h2,.inr ⟨fb,cap,sp,by rw[(zdQ hb).2.2.2.2],h3,by rw[(zdQ hb).2.2.2.2];exact kS⟩,h4.mono (fun k hk=>by rcases hk with rfl|rfl|rfl;exact .inl rfl;exact .inr (.inl rfl);exact .inr (.inr rfl))⟩
theorem zxg{L lo hi:Nat}{l h:Int}(hl:l=lo)(hh:h=hi)(h1:lo<=hi)(h2:hi<=L):∀ W:World,(Instr.slice 76 (.slice (some ⟨wb,0,none⟩) L L) (some (.int .i64 l)) (some (.int .i64 h)) none).run prog W=.ok (.slice (some ⟨wb,cutAt L lo,none⟩) (hi-lo) (L-lo)) W:=by
 intro W;subst hl hh;rw[run_slice_lh W 76 _ _ _ underlying76 .i64 .i64 _ _ (by omega) (by omega) (by omega)];have e3:prog.elem 76=2:=by kernel_rfl
 rw[e3,sizeOf2];simp only[Result.andThen,sliced,zy2,zAt,zzP,zbe,zzG,cutAt];congr 2;split <;> rfl
theorem SAt.c8(h:SAt w mb wb (zeu o fv) s):w.cell? ⟨mb,8,none⟩=some fv:=h.blk.cell 8
theorem zpi(h:SAt w mb wb (zeu o fv) s)(hf:zo4 w mb wb fns fv)(hc:s.collect fns=some (cI,s'))(bZ:fns.length<=1000000):
  Calls prog 125 #[.pointer (some ⟨mb,0,none⟩)] w fun e w'=>e=.returned (.tuple #[])/\SAt w' mb wb (zeu o fv) s'/\zo4 w' mb wb cI fv/\Fr (MB mb wb fv) w w':=by
 unfold Sto.collect at hc;split at hc
 ·next hg=>
  split at hc
  ·cases hc
  ·next s1 aA=>
   split at hc
   ·cases hc
   ·next gj s2 aw=>
    split at hc
    ·cases hc
    ·next s3 bD=>
     simp only[zyP,zzL]at hc;obtain ⟨rfl,rfl⟩:=hc;have CT:=zab (zwy h hg.1 hg.2.1 hg.2.2.1 hg.2.2.2);have aL:=zgO aA;have aC:=zdQ aw;have HF:=zab hf;have hlen:=h.len;have od:s.zbR.low+s.zbR.half<=s.ws.length/\s.zbR.top<=s.zbR.low+s.zbR.half/\s.zbR.ws.length=s.ws.length:=by
      unfold Sto.zbR;refine ⟨by simp only;omega,by simp only;omega,?_⟩;simp only;rw[zaY];rw[zzf,zzu];omega
     obtain ⟨t,mi⟩:∃ t,s.zbR=t:=⟨_,rfl⟩;rw[mi]at aA CT od aL;obtain ⟨L,hL⟩:∃ L,s.ws.length=L:=⟨_,rfl⟩;rw[hL]at od hlen;have cB:=zab aA;have gA:=zab aw;have mw:=zab bD;have HL:=zab (And.intro aL aC);have pf:s1.ws.length=L:=by rw[aL.1];exact od.2.2
     have sZ:s2.ws.length=L:=by rw[aC.1];exact pf
     have uj:=zab pf;have mB:=zab sZ;have mC:=zab od.2.2;have p9:=od.1;have AP:=od.2.1;have dY:s1.top=t.top:=aL.2.2.2;have pK:=zab dY;clear h hf hg aL aC od mi hL aA aw bD pf sZ dY;go_enter func125,ntmps125
     go_wp2_with fail
     refine CT.o.mono ?_;rintro e w1 ⟨rfl,h1,f1⟩;have H1:=zab h1;have F1:=zab (f1.zc9 fv);have B9:=zab (HF.o.fr f1);have c0:w1.cell? ⟨mb,0,none⟩=some (.slice (some ⟨wb,0,none⟩) L L):=by rw[h1.c0,mC.o]
     have c4:=h1.c4;have py:=zxg (wb:=wb) (L:=L) (lo:=t.top) (hi:=t.low+t.half) (l:=(t.top:Int)) (h:=(t.low:Int)+(t.half:Int)) rfl (by omega) AP p9;have CE:=zab (fun n:Nat=>zhJ (h1.drewN n));simp only[zzq]at CE;clear CT h1 f1 HF;go_wp2_with fail
     go_region_held3 (fun W=>W.cell? ⟨mb,0,none⟩=some (.slice (some ⟨wb,0,none⟩) L L)/\W.cell? ⟨mb,4,none⟩=some (.int .i64 t.top)) (first|go_keep|(refine ⟨?_,?_⟩ <;> assumption)) (first
      |(go_at_call 78;refine (CE.o 1).mono ?_;rintro e w2 ⟨rfl,k2,aB⟩;have H2:Hid (SAt w2 mb wb (zeu o fv) t):=zab (by rw[aB];exact (H1.o.drewN 1).drewN k2);have F2:Hid (Fr (M2 mb wb) w1 w2):=zab (by rw[aB];exact ((Fr.refl _ _).drewN 1).drewN k2);have e0:w2.cell? ⟨mb,0,none⟩=some (.slice (some ⟨wb,0,none⟩) L L):=(by rw[H2.o.c0,mC.o]);have e4:=H2.o.c4;clear aB)
      |(go_at_call 199;refine (zi5 H2.o cB.o (fun hp=>by rw[zbT (by omega)]) (by rw[mC.o];omega)).mono ?_;rintro e w3 ⟨rfl,h3,f3⟩;have H3:=zab h3;have F3:=zab (F2.o.trans f3);have d0:w3.cell? ⟨mb,0,none⟩=some (.slice (some ⟨wb,0,none⟩) L L):=(by rw[h3.c0,uj.o]);have d4:w3.cell? ⟨mb,4,none⟩=some (.int .i64 t.top):=(by rw[h3.c4,pK.o]);clear h3 f3))
     all_goals
      have c8:=H3.o.c8;have CB:=zab (zpf H3.o (B9.o.fr F3.o) gA.o bZ);have Bu:=zab (F1.o.trans (F3.o.zc9 fv));clear c0 c4 d0 d4 py;go_wp2_with fail
      refine CB.o.mono ?_;rintro e w4 ⟨rfl,h4,Ak,f4⟩;have H4:=zab h4;have pF:=zab Ak;have F4:=zab (Bu.o.trans f4);have c2:=h4.c2;clear h4 Ak f4 c8;go_wp2_with fail
      go_loopg [2] L (fun gk av wr=>∃ (a:Nat) (q:Sto),av=.int .i64 a/\SAt wr mb wb (zeu o fv) q/\q.ws.length=L/\q.scan a (gk+1)=some s3/\zo4 wr mb wb gj fv/\Fr (MB mb wb fv) w wr)
      case atStart=>exact ⟨s2.low,s2,rfl,H4.o,mB.o,by have:=mw.o;rw[mB.o]at this;exact this,pF.o,F4.o⟩
      case round=>
       obtain ⟨a,q,rfl,hq,sV,ig,xz,oX⟩:=hrel;have HQ:=zab hq;have yT:=zab xz;have cY:=zab oX;have vQ:=zab sV;have c3:=hq.c3;rw[Sto.scan]at ig;by_cases aj:a<q.free
       ·rw[if_pos aj]at ig;split at ig
        ·cases ig
        ·next x hx=>
         split at ig
         ·cases ig
         ·next hg=>
          split at ig
          ·cases ig
          ·next q1 pT=>
           split at ig
           ·cases ig
           ·next y hy=>
            split at ig
            ·cases ig
            ·next Fz=>
             have aN:(a:Int)<(q.free:Int):=by omega
             have cX:0<=x:=by omega
             have ee:x<9223372036854775808:=by omega
             have aT:0<=y:=by omega
             have bE:y<9223372036854775808:=by omega
             obtain ⟨g,jm⟩:∃ g,gk=g+1:=by
              cases gk with
              |zero=>simp[Sto.scan]at ig
              |succ g=>exact ⟨g,rfl⟩
             obtain ⟨n,hn⟩:∃ n,(x/16%4096).toNat=n:=⟨_,rfl⟩;rw[hn]at hg pT;have aJ:a+1+n<=L:=by omega
             have yH:=zab (zcA hq a x hx cX ee (by rw[hn];omega));rw[hn,sV]at yH;have cF:=zgO pT;have qD:Hid (q1.ws.length=L):=zab (by rw[cF.1];exact sV);have BD:=zab pT;have uk:=zab ig;have HY:=zab hy;have SZ:=zab (fun W:World=>zlQ y W aT bE);rw[show (if y%16=0 then 2 else 1+y/16%4096)=((behind y+1:Nat):Int) by rw[behind];split <;> omega]at SZ;have aU:(a:Int)<(L:Int):=by omega
             have xl:behind y<=4096:=by rw[behind];split <;> omega
             generalize behind y=by_ at SZ uk xl;simp only[zzq,Int.natCast_one]at SZ;clear hq xz oX sV ig hx hg pT hy Fz aj cF hn;go_wp2_with fail
             refine yH.o.mono ?_;rintro e w5 ⟨rfl,k5,dK⟩;have H5:Hid (SAt w5 mb wb (zeu o fv) q):=zab (by rw[dK];exact HQ.o.drewN k5);have F5:Hid (Fr (M2 mb wb) wr w5):=zab (by rw[dK];exact (Fr.refl _ _).drewN k5);have Bo:=zab (zi5 (cp:=L-(a+1)) (sp:=some ⟨wb,cutAt L (a+1),none⟩) H5.o BD.o (fun hp=>by rw[zbT (by omega)]) (by rw[vQ.o];exact aJ));clear dK c3;go_wp2_with fail
             refine Bo.o.mono ?_;rintro e w6 ⟨rfl,h6,f6⟩;have H6:=zab h6;have F6:=zab (F5.o.trans f6);have d0:w6.cell? ⟨mb,0,none⟩=some (.slice (some ⟨wb,0,none⟩) L L):=by rw[h6.c0,qD.o]
             have dy:=h6.word HY.o;clear h6 f6;go_wp2_with fail
             refine (SZ.o _).mono ?_;rintro e w7 ⟨rfl,rfl⟩;go_wp2_with fail
             go_roundg g
             case measure=>omega
             case rel=>exact ⟨a+1+by_,q1,by go_num,H6.o,qD.o,by have:=uk.o;rw[jm]at this;exact this,yT.o.fr F6.o,cY.o.trans (F6.o.zc9 fv)⟩
       ·rw[if_neg aj]at ig;have uk:Hid (q=s3):=zab (zyU ig);have aN:¬ (a:Int)<(q.free:Int):=by omega
        clear hq xz oX sV ig;go_wp2_with fail
        go_end0
        exact ⟨rfl,by rw[<-uk.o];exact HQ.o,yT.o,cY.o⟩
 ·cases hc
end Go.Proofs.YtgahgkddaljmkaaGreatDoor
