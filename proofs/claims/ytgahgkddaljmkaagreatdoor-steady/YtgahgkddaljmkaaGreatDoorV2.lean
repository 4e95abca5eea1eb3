/- Mach5 .. Mach10 -/
import Derived.Test.YtgahgkddaljmkaaGreatDoorV1
import Derived.Deep.RegionWith
import Derived.Deep.LoopGhost
set_option maxRecDepth 100000
set_option maxHeartbeats 4000000
namespace Go.Proofs.YtgahgkddaljmkaaGreatDoor
open Go.RowKit
attribute [local go_sem ↓] Go.wp_at_zero Go.wp_at_succ
theorem zbb(b o j:Nat):(⟨b,o,none⟩:Addr).add j=⟨b,o+j,none⟩:=by simp[Addr.add]
def Sto.zbQ (s:Sto):Sto:=
 let n:=s.low+s.half-s.top
 let t:=s.half-s.low+s.half-n
 { s with low:=s.half-s.low,free:=s.half-s.low,top:=t,ws:=splice s.ws t ((s.ws.drop s.top).take n) }
variable {w:World}
variable {mb wb:Nat}
variable {tl:List Value}
variable {s:Sto}
theorem zul(h:SAt w mb wb tl s)(h1:s.low<=s.half)(h2:2*s.half<=s.ws.length)(h3:s.low<=s.top)(h4:s.top<=s.low+s.half):
  Calls Tryz.prog 198 #[.pointer (some ⟨mb,0,none⟩)] w fun e w'=>e=.returned (.tuple #[])/\SAt w' mb wb tl s.zbQ/\Fr (M2 mb wb) w w':=by
 obtain ⟨ws,hf,lo,fr,tp⟩:=s;simp only at h1 h2 h3 h4;have hlen:ws.length<=1000000:=h.len;have c0:w.cell? ⟨mb,0,none⟩=some (.slice (some ⟨wb,0,none⟩) ws.length ws.length):=h.c0;have c1:w.cell? ⟨mb,1,none⟩=some (.int .i64 hf):=h.c1;have c2:w.cell? ⟨mb,2,none⟩=some (.int .i64 lo):=h.c2;have c4:w.cell? ⟨mb,4,none⟩=some (.int .i64 tp):=h.c4;have f2:=h.blk.frozen 2;have CE:=zab (fun (n:Nat)=>zhP (s:=⟨ws,hf,lo,fr,tp⟩) (w:=w.drewN n) ⟨h.blk,h.zey,h.ne,h.len,h.half,h.low,h.free,h.top⟩);simp only[zym]at CE;have HH:=zab h;have hb1:(lo:Int)<=(hf:Int):=by omega
 have hb2:(tp:Int)<=(lo:Int)+(hf:Int):=by omega
 have hb3:(lo:Int)+(hf:Int)<=(ws.length:Int):=by omega
 clear h;go_enter Tryz.func198,Tryz.ntmps198
 go_wp2_with fail
 go_quiet ((go_at_call 78;exact Calls.quiet_of (CE.o _)))
 obtain ⟨oa,hoa⟩:∃ oa,(if ws.length=tp then some (⟨wb,0,none⟩:Addr) else some ⟨wb,tp,none⟩)=oa:=⟨_,rfl⟩;rw[hoa];have HOA:=zab hoa;have HF0:Hid (Fr (M2 mb wb) w (w.drewN nq)):=zab ⟨rfl,rfl,rfl,zxJ _,fun _ _ _=>rfl⟩;have H0:Hid (SAt (w.drewN nq) mb wb tl ⟨ws,hf,lo,fr,tp⟩):=zab ⟨HH.o.blk,HH.o.zey,HH.o.ne,HH.o.len,HH.o.half,HH.o.low,HH.o.free,HH.o.top⟩;clear hoa CE HH c0 c1 c2 c4 f2;generalize w.drewN nq=w0 at HF0 H0;have c1:w0.cell? ⟨mb,1,none⟩=some (.int .i64 hf):=H0.o.c1;have c2:w0.cell? ⟨mb,2,none⟩=some (.int .i64 lo):=H0.o.c2;have f2:=H0.o.blk.frozen 2;obtain ⟨l2,hl2⟩:∃ l2:Nat,hf-lo=l2:=⟨_,rfl⟩;obtain ⟨n,hn⟩:∃ n:Nat,lo+hf-tp=n:=⟨_,rfl⟩;obtain ⟨t,htt⟩:∃ t:Nat,l2+hf-n=t:=⟨_,rfl⟩;rw[hn];have HL:Hid (IntKind.i64.wrap ((hf:Int)-(lo:Int))=(l2:Int)):=zab (by rw[zba _ (by omega) (by omega)];omega);have hnb:n<=hf:=by omega
 have HTT:Hid ((l2:Int)+(hf:Int)-(n:Int)=(t:Int)):=zab (by omega);have htb:t+n=l2+hf:=by omega
 have hl2b:l2<=hf:=by omega
 have hfit:t+n<=ws.length:=by omega
 have HT:Hid ((⟨ws,hf,lo,fr,tp⟩:Sto).zbQ=⟨splice ws t ((ws.drop tp).take n),hf,l2,l2,t⟩):=zab (by
  unfold Sto.zbQ;simp only[hl2,hn,htt])
 have hxl:((ws.drop tp).take n).length=n:=by rw[zyb,zyp];omega
 have HSRC:Hid (0<n->oa=some ⟨wb,tp,none⟩):=zab (fun h0=>by rw[<-HOA.o,if_neg (by omega)]);have htpn:tp+n<=ws.length:=by omega
 clear hl2 hn htt;go_wp2_with fail
 go_region_with (fail)
 all_goals
  rw[HL.o];have H1:=zab ((H0.o.zxm l2 (by omega)).drew);have F1:=zab ((HF0.o.set ⟨mb,2,none⟩ (.int .i64 l2) (.inl (.inl rfl))).drew);generalize (w0.setCell ⟨mb,2,none⟩ (.int .i64 l2)).drew=w1 at H1 F1;clear c1 c2 f2;have c2:w1.cell? ⟨mb,2,none⟩=some (.int .i64 l2):=H1.o.c2;have c3:w1.cell? ⟨mb,3,none⟩=some (.int .i64 fr):=H1.o.c3;have f3:=H1.o.blk.frozen 3;have H2:=zab (H1.o.zke l2 (by omega));have F2:=zab (F1.o.set ⟨mb,3,none⟩ (.int .i64 l2) (.inl (.inl rfl)));have CE:=zab (zhP H2.o);go_wp2_with fail
  refine CE.o.mono ?_;rintro e w3 ⟨rfl,k3,hw3⟩;have H3:Hid (SAt w3 mb wb tl ⟨ws,hf,l2,l2,tp⟩):=zab (by rw[hw3];exact ⟨H2.o.blk,H2.o.zey,H2.o.ne,H2.o.len,H2.o.half,H2.o.low,H2.o.free,H2.o.top⟩);have F3:Hid (Fr (M2 mb wb) w w3):=zab (by rw[hw3];exact ⟨F2.o.os,F2.o.tape,F2.o.output,F2.o.size,F2.o.block⟩);clear hw3 c2 c3 f3 CE;have c4:w3.cell? ⟨mb,4,none⟩=some (.int .i64 tp):=H3.o.c4;have f4:=H3.o.blk.frozen 4;simp only[zym];go_wp2_with fail
  rw[HTT.o];have H4:=zab (H3.o.zlG t (by omega));have F4:=zab (F3.o.set ⟨mb,4,none⟩ (.int .i64 t) (.inl (.inl rfl)));generalize w3.setCell ⟨mb,4,none⟩ (.int .i64 t)=w4 at H4 F4;clear c4 f4;have d0:w4.cell? ⟨mb,0,none⟩=some (.slice (some ⟨wb,0,none⟩) ws.length ws.length):=H4.o.c0;have d4:w4.cell? ⟨mb,4,none⟩=some (.int .i64 t):=H4.o.c4;have ht1:(t:Int)<=(ws.length:Int):=by omega
  have ht0:(0:Int)<=(t:Int):=by omega
  have HSR:Hid (0<((ws.drop tp).take n).length->∃ ad,oa=some ad/\∀ (j:Nat) x,((ws.drop tp).take n)[j]?=some x->w4.drew.cell? (ad.add j)=some (.int .i64 x)):=zab (fun h0=>by
   rw[hxl]at h0;refine ⟨_,HSRC.o h0,fun j x hj=>?_⟩;have hjn:j<n:=by
    have:=(zxH.1 hj).1;omega
   have hx:ws[tp+j]?=some x:=by
    rw[zyq,if_pos hjn,zyr]at hj;exact hj
   rw[zbb];exact H4.o.drew.word hx)
  generalize (ws.drop tp).take n=xs at HSR HT hxl;subst hxl;by_cases hr:ws.length=t
  ·have hx:xs=[]:=zyo (by omega);subst hx
   go_region_held3 (fun W=>W.cell? ⟨mb,0,none⟩=some (.slice (some ⟨wb,0,none⟩) ws.length ws.length)/\W.cell? ⟨mb,4,none⟩=some (.int .i64 t)) (first|go_keep|(refine ⟨?_,?_⟩ <;> assumption)) (first
    |(refine za5 (by rfl) _ _ (by rfl) H4.o.drew _ _ _ _ _ _ (by rfl) (by rfl) [] (by simp) (fun h=>absurd h (by simp)) (by simp) ?_;intro w5 h5 f5;have H5:=zab h5;have F5:=zab f5;have e0:=h5.c0;have e4:=h5.c4;simp only[splice,zyN,zx7,zyX,zyi,zyK]at e0 e4;clear h5 f5))
   all_goals
    go_wp2_with fail
    go_end0
    refine ⟨rfl,?_,F4.o.trans ((Fr.refl _ _).drew.trans F5.o)⟩;rw[HT.o];have:=H5.o;simpa [splice] using this
  ·have hlt:t<ws.length:=by omega
   go_region_held3 (fun W=>W.cell? ⟨mb,0,none⟩=some (.slice (some ⟨wb,0,none⟩) ws.length ws.length)/\W.cell? ⟨mb,4,none⟩=some (.int .i64 t)) (first|go_keep|(refine ⟨?_,?_⟩ <;> assumption)) (first
    |(refine za5 (by rfl) _ _ (by rfl) H4.o.drew t _ _ _ _ _ (by rfl) (by rfl) xs (by simp[Nat.min_def];omega) HSR.o hfit ?_;intro w5 h5 f5;have H5:=zab h5;have F5:=zab f5;have e0:=h5.c0;have e4:=h5.c4;simp only[zaX _ _ _ hfit]at e0 e4;clear h5 f5))
   all_goals
    go_wp2_with fail
    go_end0
    refine ⟨rfl,?_,F4.o.trans ((Fr.refl _ _).drew.trans F5.o)⟩;rw[HT.o];exact H5.o
theorem SAt.drewN{w:World}{mb wb:Nat}{tl:List Value}{s:Sto}(h:SAt w mb wb tl s)(n:Nat):SAt (w.drewN n) mb wb tl s:=⟨h.blk,h.zey,h.ne,h.len,h.half,h.low,h.free,h.top⟩
theorem Fr.drewN{K:Nat->Prop}{a b:World}(h:Fr K a b)(n:Nat):Fr K a (b.drewN n):=⟨h.os,h.tape,h.output,h.size,h.block⟩
def behind (y:Int):Nat:=if y%16=0 then 1 else (y/16%4096).toNat
theorem zqW(h:SAt w mb wb tl s)(a b:Nat)(x y:Int)(hx:s.ws[a]?=some x)(hx0:0<=x)(hx1:x<9223372036854775808)(hb:(b:Int)=if x%16=4 then x/65536 else a)(hy:s.ws[b]?=some y)(hy0:0<=y)(hy1:y<9223372036854775808)(hf:y%16=5):
  Calls Tryz.prog 254 #[.pointer (some ⟨mb,0,none⟩),.int .i64 a] w fun e w'=>e=.returned (.int .i64 (y/65536))/\SAt w' mb wb tl s/\Fr (M2 mb wb) w w':=by
 have c0:=h.c0;have ca:=h.word hx;have cb:=h.word hy;have ha:(a:Int)<(s.ws.length:Int):=by have:=(zxH.1 hx).1;omega
 have hbl:(b:Int)<(s.ws.length:Int):=by have:=(zxH.1 hy).1;omega
 have hyb:(y%16 == 5)=true:=beq_iff_eq.2 hf;have K1:=zab (fun W:World=>za2 x W hx0 hx1);have K2:=zab (fun W:World=>za2 y W hy0 hy1);have W1:=zab (fun W:World=>zbu x W hx0 hx1);have W2:=zab (fun W:World=>zbu y W hy0 hy1);have HH:=zab h;clear h hx hy hf;by_cases hm:x%16=4
 ·rw[if_pos hm]at hb;have hxb:(x%16 == 4)=true:=beq_iff_eq.2 hm;rw[<-hb]at W1;clear hm hb;go_enter Tryz.func254,Tryz.ntmps254
  go_wp2_with fail
  refine (K1.o _).mono ?_;rintro e w1 ⟨rfl,rfl⟩;go_wp2_with fail
  refine (W1.o _).mono ?_;rintro e w1 ⟨rfl,rfl⟩;go_wp2_with fail
  refine (K2.o _).mono ?_;rintro e w1 ⟨rfl,rfl⟩;go_wp2_with fail
  refine (W2.o _).mono ?_;rintro e w1 ⟨rfl,rfl⟩;go_wp2_with fail
  go_ret
  exact ⟨rfl,HH.o,Fr.refl _ _⟩
 ·rw[if_neg hm]at hb;have hxb:(x%16 == 4)=false:=beq_eq_false_iff_ne.2 hm;obtain rfl:b=a:=by omega
  have hxy:x=y:=by
   have:=ca.symm.trans cb;simpa using this
  subst hxy;clear hm hb;go_enter Tryz.func254,Tryz.ntmps254
  go_wp2_with fail
  refine (K1.o _).mono ?_;rintro e w1 ⟨rfl,rfl⟩;go_wp2_with fail
  refine (K2.o _).mono ?_;rintro e w1 ⟨rfl,rfl⟩;go_wp2_with fail
  refine (W2.o _).mono ?_;rintro e w1 ⟨rfl,rfl⟩;go_wp2_with fail
  go_ret
  exact ⟨rfl,HH.o,Fr.refl _ _⟩
theorem zrU(h:SAt w mb wb tl s)(a b:Nat)(x y:Int)(hx:s.ws[a]?=some x)(hx0:0<=x)(hx1:x<9223372036854775808)(hb:(b:Int)=if x%16=4 then x/65536 else a)(hy:s.ws[b]?=some y)(hy0:0<=y)(hy1:y<9223372036854775808)(hf:y%16≠5)(hn:b+1+behind y<=s.ws.length)(hfr:s.free+1+behind y<=s.ws.length)(hd:s.free<b+1\/b+1+behind y<=s.free):
  Calls Tryz.prog 254 #[.pointer (some ⟨mb,0,none⟩),.int .i64 a] w fun e w'=>e=.returned (.int .i64 s.free) /\
   SAt w' mb wb tl { s with free:=s.free+1+behind y,ws:=(splice (s.ws.set s.free y) (s.free+1) ((s.ws.drop (b+1)).take (behind y))).set b (Hd 5 s.free 0) }/\Fr (M2 mb wb) w w':=by
 obtain ⟨ws,hff,lo,fr,tp⟩:=s;simp only at hx hy hn hfr hd ⊢;have hlen:ws.length<=1000000:=h.len;have c0:w.cell? ⟨mb,0,none⟩=some (.slice (some ⟨wb,0,none⟩) ws.length ws.length):=h.c0;have ca:w.cell? ⟨wb,a,none⟩=some (.int .i64 x):=h.word hx;have cb:w.cell? ⟨wb,b,none⟩=some (.int .i64 y):=h.word hy;have ha:(a:Int)<(ws.length:Int):=by have:=(zxH.1 hx).1;omega
 have hbl:(b:Int)<(ws.length:Int):=by omega
 have hyb:(y%16 == 5)=false:=beq_eq_false_iff_ne.2 hf;have K1:=zab (fun W:World=>za2 x W hx0 hx1);have K2:=zab (fun W:World=>za2 y W hy0 hy1);have W1:=zab (fun W:World=>zbu x W hx0 hx1);have SZ:=zab (fun W:World=>zlM y W hy0 hy1);obtain ⟨n,hnn⟩:∃ n,behind y=n:=⟨_,rfl⟩;rw[show (if y%16=0 then 2 else 1+y/16%4096)=((n+1:Nat):Int) by rw[<-hnn,behind];split <;> omega]at SZ;simp only[zym,Int.natCast_one]at SZ;rw[hnn]at hn hfr hd ⊢;have hxl:((ws.drop (b+1)).take n).length=n:=by rw[zyb,zyp];omega
 have HD:=zab (fun W:World=>zbt 5 fr 0 W (by omega) (by omega) (by omega));have CN:Hid (∀ W:World,SAt W mb wb tl ⟨ws,hff,lo,fr,tp⟩->Fr (M2 mb wb) w W->Calls Tryz.prog 74 #[.pointer (some ⟨mb,0,none⟩),.int .i64 y,.slice (if ws.length=b+1 then some ⟨wb,0,none⟩ else some ⟨wb,b+1,none⟩) n (ws.length-(b+1))] W fun e w'=>e=.returned (.int .i64 fr)/\SAt w' mb wb tl ⟨splice (ws.set fr y) (fr+1) ((ws.drop (b+1)).take n),hff,lo,fr+1+n,tp⟩/\Fr (M2 mb wb) W w'):=zab (fun W hW _=>by
  have:=zd7 hW y ((ws.drop (b+1)).take n) (if ws.length=b+1 then some ⟨wb,0,none⟩ else some ⟨wb,b+1,none⟩) (ws.length-(b+1)) (by rw[hxl];exact hfr) (fun h0=>by
   rw[hxl]at h0;refine ⟨_,if_neg (by omega),fun W2 h2 _ j x hj=>?_⟩;have hjn:j<n:=by
    have:=(zxH.1 hj).1;omega
   rw[zyq,if_pos hjn,zyr]at hj;rw[zbb];refine h2.word ?_;show (ws.set fr y)[b+1+j]?=some x;rw[zzi (by omega)];exact hj)
  simp only[hxl]at this;exact this)
 have hfit:fr+1+((ws.drop (b+1)).take n).length<=(ws.set fr y).length:=by rw[hxl,zx2];exact hfr
 have HH:=zab h;have hoth:=zcg h.ne;have hq0:(0:Int)<=(b:Int)+1:=by omega
 have hq1:(b:Int)+1<=(b:Int)+((n:Int)+1):=by omega
 have hq2:(b:Int)+((n:Int)+1)<=(ws.length:Int):=by omega
 have hw1:IntKind.i64.wrap ((b:Int)+1)=(b:Int)+1:=zba _ (by omega) (by omega);have hw2:IntKind.i64.wrap ((b:Int)+((n:Int)+1))=(b:Int)+((n:Int)+1):=zba _ (by omega) (by omega);obtain ⟨oa,hoa⟩:∃ oa,(if ws.length=b+1 then some (⟨wb,0,none⟩:Addr) else some ⟨wb,b+1,none⟩)=oa:=⟨_,rfl⟩;have qsl:∀ W:World,(Instr.slice 76 (.slice (some ⟨wb,0,none⟩) ws.length ws.length) (some (.int .i64 ((b:Int)+1))) (some (.int .i64 ((b:Int)+((n:Int)+1)))) none).run Tryz.prog W=.ok (.slice oa n (ws.length-(b+1))) W:=by
  intro W;rw[run_slice_lh W 76 _ _ _ Tryz.underlying76 .i64 .i64 _ _ hq0 hq1 hq2,<-hoa];have e1:((b:Int)+1).toNat=b+1:=by omega
  have e2:((b:Int)+((n:Int)+1)).toNat=b+(n+1):=by omega
  have e3:Tryz.prog.elem 76=2:=by kernel_rfl
  rw[e3,Tryz.sizeOf2];simp only[Result.andThen,sliced,e1,e2,zzn,zyL,zbb,zyC];rw[show b+(n+1)-(b+1)=n by omega]
 rw[hoa]at CN;clear hoa;have hb0:(0:Int)<=(b:Int):=by omega
 generalize (ws.drop (b+1)).take n=xs at CN hfit hxl;clear h hx hy hf hnn hn hd hxl;by_cases hm:x%16=4
 ·rw[if_pos hm]at hb;have hxb:(x%16 == 4)=true:=beq_iff_eq.2 hm;rw[<-hb]at W1;clear hm hb;go_enter Tryz.func254,Tryz.ntmps254
  go_wp2_with fail
  refine (K1.o _).mono ?_;rintro e w1 ⟨rfl,rfl⟩;go_wp2_with fail
  refine (W1.o _).mono ?_;rintro e w1 ⟨rfl,rfl⟩;go_wp2_with fail
  refine (K2.o _).mono ?_;rintro e w1 ⟨rfl,rfl⟩;go_wp2_with fail
  go_region_held3 (fun W=>W.cell? ⟨mb,0,none⟩=some (.slice (some ⟨wb,0,none⟩) ws.length ws.length)) (first|go_keep|assumption) (first
   |(go_at_call 200;refine (SZ.o _).mono ?_;rintro e w1 ⟨rfl,rfl⟩)
   |(go_at_call 74;refine (CN.o _ HH.o.drew (Fr.refl _ _).drew).mono ?_;rintro e w3 ⟨rfl,h3,f3⟩;have H3:=zab h3;have F3:=zab ((Fr.refl _ _).drew.trans f3);have e0:=h3.c0;simp only[zaX _ _ _ hfit,zx2]at e0;clear h3 f3))
  all_goals
   go_wp2_with fail
   have e1:=H3.o.zi6 (i:=b) (by rw[zaX _ _ _ hfit,zx2];omega);have g1:=H3.o.zey.frozen b;clear c0 ca cb
   go_region_held3 (fun W=>W.cell? ⟨mb,0,none⟩=some (.slice (some ⟨wb,0,none⟩) ws.length ws.length)) (first|go_keep|assumption) (first
    |(go_at_call 75;refine (HD.o _).mono ?_;rintro e w4 ⟨rfl,rfl⟩))
   all_goals
    go_wp2_with fail
    go_ret
    exact ⟨rfl,H3.o.drew.zcB b _,F3.o.drew.set _ _ (.inl (.inr rfl))⟩
 ·rw[if_neg hm]at hb;have hxb:(x%16 == 4)=false:=beq_eq_false_iff_ne.2 hm;obtain rfl:b=a:=by omega
  have hxy:x=y:=by
   have:=ca.symm.trans cb;simpa using this
  subst hxy;clear hm hb;go_enter Tryz.func254,Tryz.ntmps254
  go_wp2_with fail
  refine (K1.o _).mono ?_;rintro e w1 ⟨rfl,rfl⟩;go_wp2_with fail
  refine (K2.o _).mono ?_;rintro e w1 ⟨rfl,rfl⟩;go_wp2_with fail
  go_region_held3 (fun W=>W.cell? ⟨mb,0,none⟩=some (.slice (some ⟨wb,0,none⟩) ws.length ws.length)) (first|go_keep|assumption) (first
   |(go_at_call 200;refine (SZ.o _).mono ?_;rintro e w1 ⟨rfl,rfl⟩)
   |(go_at_call 74;refine (CN.o _ HH.o.drew (Fr.refl _ _).drew).mono ?_;rintro e w3 ⟨rfl,h3,f3⟩;have H3:=zab h3;have F3:=zab ((Fr.refl _ _).drew.trans f3);have e0:=h3.c0;simp only[zaX _ _ _ hfit,zx2]at e0;clear h3 f3))
  all_goals
   go_wp2_with fail
   have e1:=H3.o.zi6 (i:=b) (by rw[zaX _ _ _ hfit,zx2];omega);have g1:=H3.o.zey.frozen b;clear c0 ca cb
   go_region_held3 (fun W=>W.cell? ⟨mb,0,none⟩=some (.slice (some ⟨wb,0,none⟩) ws.length ws.length)) (first|go_keep|assumption) (first
    |(go_at_call 75;refine (HD.o _).mono ?_;rintro e w4 ⟨rfl,rfl⟩))
   all_goals
    go_wp2_with fail
    go_ret
    exact ⟨rfl,H3.o.drew.zcB b _,F3.o.drew.set _ _ (.inl (.inr rfl))⟩
def Sto.zhm (s:Sto) (a:Nat):Option (Nat × Sto):=
 match s.ws[a]? with
 |none=>none
 |some x=>
  if x<0\/9223372036854775808<=x then none else
  match s.ws[if x%16=4 then (x/65536).toNat else a]? with
  |none=>none
  |some y=>
   if y<0\/9223372036854775808<=y then none
   else if y%16=5 then some ((y/65536).toNat,s)
   else if (if x%16=4 then (x/65536).toNat else a)+1+behind y<=s.ws.length/\s.free+1+behind y<=s.ws.length/\(s.free<(if x%16=4 then (x/65536).toNat else a)+1\/(if x%16=4 then (x/65536).toNat else a)+1+behind y<=s.free) then
    some (s.free,{ s with free:=s.free+1+behind y,ws:=(splice (s.ws.set s.free y) (s.free+1) ((s.ws.drop ((if x%16=4 then (x/65536).toNat else a)+1)).take (behind y))).set (if x%16=4 then (x/65536).toNat else a) (Hd 5 s.free 0) })
   else none
variable {s':Sto}
variable {r:Nat}
theorem zfw{a:Nat}(hc:s.zhm a=some (r,s')):∃ (x y:Int) (b:Nat),s.ws[a]?=some x/\0<=x/\x<9223372036854775808/\((b:Int)=if x%16=4 then x/65536 else a)/\s.ws[b]?=some y/\0<=y/\y<9223372036854775808 /\
  ((y%16=5/\(r:Int)=y/65536/\s'=s)\/(y%16≠5/\b+1+behind y<=s.ws.length/\s.free+1+behind y<=s.ws.length/\(s.free<b+1\/b+1+behind y<=s.free)/\r=s.free /\
   s'={ s with free:=s.free+1+behind y,ws:=(splice (s.ws.set s.free y) (s.free+1) ((s.ws.drop (b+1)).take (behind y))).set b (Hd 5 s.free 0) })):=by
 unfold Sto.zhm at hc;split at hc
 ·cases hc
 ·next x hx=>
  split at hc
  ·cases hc
  ·next hx0=>
   obtain ⟨b,hb⟩:∃ b,(if x%16=4 then (x/65536).toNat else a)=b:=⟨_,rfl⟩;rw[hb]at hc;have hb':(b:Int)=if x%16=4 then x/65536 else a:=by
    rw[<-hb];split <;> omega
   split at hc
   ·cases hc
   ·next y hy=>
    split at hc
    ·cases hc
    ·next hy0=>
     refine ⟨x,y,b,hx,by omega,by omega,hb',hy,by omega,by omega,?_⟩;split at hc
     ·next hf=>
      simp only[zxL,zyH]at hc;exact .inl ⟨hf,by omega,hc.2.symm⟩
     ·next hf=>
      split at hc
      ·next hg=>
       simp only[zxL,zyH]at hc;exact .inr ⟨hf,hg.1,hg.2.1,hg.2.2,hc.1.symm,hc.2.symm⟩
      ·cases hc
theorem zkZ(h:SAt w mb wb tl s){a:Nat}(hc:s.zhm a=some (r,s')):
  Calls Tryz.prog 254 #[.pointer (some ⟨mb,0,none⟩),.int .i64 a] w fun e w'=>e=.returned (.int .i64 r)/\SAt w' mb wb tl s'/\Fr (M2 mb wb) w w':=by
 obtain ⟨x,y,b,hx,hx0,hx1,hb,hy,hy0,hy1,⟨hf,hr,rfl⟩|⟨hf,g1,g2,g3,rfl,rfl⟩⟩:=zfw hc
 ·rw[hr];exact zqW h a b x y hx hx0 hx1 hb hy hy0 hy1 hf
 ·exact zrU h a b x y hx hx0 hx1 hb hy hy0 hy1 hf g1 g2 g3
theorem zhL{a:Nat}(hc:s.zhm a=some (r,s')):s'.ws.length=s.ws.length:=by
 obtain ⟨x,y,b,hx,hx0,hx1,hb,hy,hy0,hy1,⟨hf,hr,rfl⟩|⟨hf,g1,g2,g3,rfl,rfl⟩⟩:=zfw hc
 ·rfl
 ·rw[zx2,zaX,zx2];rw[zx2,zyb];omega
def Sto.zfF (s:Sto) (o:Nat):Nat->Option Sto
 |0=>some s
 |n+1=>
  match s.ws[o]? with
  |none=>none
  |some x=>if x<0 then Sto.zfF s (o+1) n else
   match s.zhm x.toNat with
   |none=>none
   |some (r,s1)=>Sto.zfF { s1 with ws:=s1.ws.set o r } (o+1) n
theorem zkb(h:SAt w mb wb tl s){o n cp:Nat}{sp:Option Addr}(hb:s.zfF o n=some s')(hsp:0<n->sp=some ⟨wb,o,none⟩)(hon:o+n<=s.ws.length):
  Calls Tryz.prog 199 #[.pointer (some ⟨mb,0,none⟩),.slice sp n cp] w fun e w'=>e=.returned (.tuple #[])/\SAt w' mb wb tl s'/\Fr (M2 mb wb) w w':=by
 have hlen:=h.len;rcases Nat.eq_zero_or_pos n with hn|hn
 ·subst hn;simp only[Sto.zfF,zxL]at hb;subst hb;have HH:=zab h;clear h hsp;go_enter Tryz.func199,Tryz.ntmps199
  go_wp2_with fail
  refine wp_loop_rounds 1 ?_;rw[rounds_succ];go_wp2_with fail
  go_end0
  exact ⟨rfl,HH.o,Fr.refl _ _⟩
 ·obtain rfl:=hsp hn;have HH:=zab h;have HB:=zab hb;obtain ⟨L,hL⟩:∃ L,s.ws.length=L:=⟨_,rfl⟩;rw[hL]at hon hlen;have HL:=zab hL;clear h hb hsp hn hL;go_enter Tryz.func199,Tryz.ntmps199
  go_wp2_with fail
  go_loopg [8] n (fun gk iv wr=>∃ (i:Nat) (s1:Sto),iv=.int .i64 i/\i<=n/\n-i<=gk/\SAt wr mb wb tl s1/\s1.ws.length=L/\s1.zfF (o+i) (n-i)=some s'/\Fr (M2 mb wb) w wr)
  case atStart=>exact ⟨0,s,rfl,zx1 _,by omega,HH.o,HL.o,HB.o,Fr.refl _ _⟩
  case round=>
   obtain ⟨i,s1,rfl,hi,hgk,h1,hl1,hb1,hf1⟩:=hrel;have H1:=zab h1;have HF:=zab hf1;by_cases hlt:i<n
   ·obtain ⟨m,hm⟩:∃ m,n-i=m+1:=⟨n-i-1,by omega⟩;rw[hm,Sto.zfF]at hb1;have hil:o+i<s1.ws.length:=by omega
    rw[zxI hil]at hb1;simp only at hb1;obtain ⟨x,hx⟩:∃ x,s1.ws[o+i]=x:=⟨_,rfl⟩;rw[hx]at hb1;have cx:wr.cell? ⟨wb,o+i,none⟩=some (.int .i64 x):=by rw[<-hx];exact h1.zi6 hil
    have hb2:(0:Int)<=(i:Int):=by omega
    have hb3:(i:Int)<(n:Int):=by omega
    by_cases hneg:x<0
    ·rw[if_pos hneg]at hb1;have HB1:=zab hb1;have HL1:=zab hl1;clear h1 hf1 hb1 hl1 hx;go_wp2_with fail
     go_roundg (n-(i+1))
     case measure=>omega
     case rel=>exact ⟨i+1,s1,by go_num,by omega,zxJ _,H1.o,HL1.o,by rw[show n-(i+1)=m by omega];exact HB1.o,HF.o⟩
    ·rw[if_neg hneg]at hb1;split at hb1
     ·cases hb1
     ·next r s2 hc=>
      have CC:=zkZ h1 hc;rw[show ((x.toNat:Nat):Int)=x by omega]at CC;have HC:=zab CC;have HL2:=zab ((zhL hc).trans hl1);have HB1:=zab hb1;have hpos:¬ x<0:=hneg;clear CC h1 hf1 hb1 hl1 hx hc hneg;go_wp2_with fail
      refine HC.o.mono ?_;rintro e w2 ⟨rfl,h2,f2⟩;have H2:=zab h2;have F2:=zab (HF.o.trans f2);have e1:=h2.zi6 (i:=o+i) (by rw[HL2.o];omega);have g1:=h2.zey.frozen (o+i);clear h2 f2 cx;go_wp2_with fail
      go_roundg (n-(i+1))
      case measure=>omega
      case rel=>exact ⟨i+1,_,by go_num,by omega,zxJ _,H2.o.zcB (o+i) r,by rw[zx2];exact HL2.o,by rw[show n-(i+1)=m by omega];exact HB1.o,F2.o.set _ _ (.inl (.inr rfl))⟩
   ·have hin:i=n:=by omega
    have HB1:Hid (s1=s'):=zab (by
     rw[hin,zzp,Sto.zfF]at hb1;exact zxQ hb1)
    clear h1 hf1 hb1 hl1 hin;go_wp2_with fail
    go_end0
    exact ⟨rfl,by rw[<-HB1.o];exact H1.o,HF.o⟩
def M3 (mb wb fb:Nat):Nat->Prop:=fun k=>k=mb\/k=wb\/k=fb
variable {a b:World}
theorem Fr.to3(h:Fr (M2 mb wb) a b)(fb:Nat):Fr (M3 mb wb fb) a b:=h.mono (fun i hi=>by rcases hi with rfl|rfl;exact .inl rfl;exact .inr (.inl rfl))
def FAt (w:World) (mb wb fb:Nat) (fns:List Int) (sp:List Value):Prop:=Blk w fb (zdF fns++sp) 2/\fb≠mb/\fb≠wb
variable {fb:Nat}
variable {fns:List Int}
variable {sp:List Value}
theorem FAt.fr{w':World}(h:FAt w mb wb fb fns sp)(f:Fr (M2 mb wb) w w'):FAt w' mb wb fb fns sp:=
 ⟨Fr.blk h.1 f (by intro k;rcases k with k|k;exact h.2.1 k;exact h.2.2 k),h.2⟩
theorem FAt.word(h:FAt w mb wb fb fns sp){i:Nat}{x:Int}(hx:fns[i]?=some x):w.cell? ⟨fb,i,none⟩=some (.int .i64 x):=by
 have hl:i<fns.length:=(zxH.1 hx).1;rw[h.1.cell,zx8 (by rw[zbJ];exact hl),zht,hx];rfl
theorem FAt.set{w:World}{mb wb fb:Nat}{fns:List Int}{sp:List Value}(h:FAt w mb wb fb fns sp){i:Nat}(hi:i<fns.length)(x:Int):FAt (w.setCell ⟨fb,i,none⟩ (.int .i64 x)) mb wb fb (fns.set i x) sp:=by
 refine ⟨?_,h.2⟩;have:=h.1.set i (.int .i64 x);rw[List.set_append_left _ _ (by rw[zbJ];exact hi),show (zdF fns).set i (.int .i64 x)=zdF (fns.set i x) from by simp[zdF,List.map_set]]at this;exact this
theorem SAt.other{w:World}{mb wb:Nat}{tl:List Value}{s:Sto}(h:SAt w mb wb tl s){fb:Nat}(h1:fb≠mb)(h2:fb≠wb)(i:Nat)(v:Value):SAt (w.setCell ⟨fb,i,none⟩ v) mb wb tl s:=
 ⟨h.blk.other _ _ h1.symm,h.zey.other _ _ h2.symm,h.ne,h.len,h.half,h.low,h.free,h.top⟩
def Sto.zdT (s:Sto):List Int->Option (List Int × Sto)
 |[]=>some ([],s)
 |x::r=>if x<0 then none else
  match s.zhm x.toNat with
  |none=>none
  |some (y,s1)=>
   match Sto.zdT s1 r with
   |none=>none
   |some (l,s2)=>some ((y:Int)::l,s2)
variable {fns':List Int}
theorem zre(h:SAt w mb wb tl s)(hf:FAt w mb wb fb fns sp){cp:Nat}(hb:s.zdT fns=some (fns',s'))(hfl:fns.length<=1000000):
  Calls Tryz.prog 199 #[.pointer (some ⟨mb,0,none⟩),.slice (some ⟨fb,0,none⟩) fns.length cp] w fun e w'=>e=.returned (.tuple #[])/\SAt w' mb wb tl s'/\FAt w' mb wb fb fns' sp/\Fr (M3 mb wb fb) w w':=by
 have HH:=zab h;have HF0:=zab hf;have HB:=zab hb;have hfm:=hf.2.1;have hfw:=hf.2.2;obtain ⟨n,hn⟩:∃ n,fns.length=n:=⟨_,rfl⟩;rw[hn]at hfl ⊢;have HN:=zab hn;clear h hb hf hn;go_enter Tryz.func199,Tryz.ntmps199
 go_wp2_with fail
 go_loopg [8] n (fun gk iv wr=>∃ (i:Nat) (s1:Sto) (d r l:List Int),iv=.int .i64 i/\i<=n/\n-i<=gk/\SAt wr mb wb tl s1/\d.length=i/\r.length=n-i/\FAt wr mb wb fb (d++r) sp/\s1.zdT r=some (l,s')/\fns'=d++l/\Fr (M3 mb wb fb) w wr)
 case atStart=>exact ⟨0,s,[],fns,fns',rfl,zx1 _,by omega,HH.o,rfl,HN.o,HF0.o,HB.o,rfl,Fr.refl _ _⟩
 case round=>
  obtain ⟨i,s1,d,r,l,rfl,hi,hgk,h1,hd,hr,hf1,hb1,hl,hfr⟩:=hrel;have H1:=zab h1;have HF:=zab hfr;have HFF:=zab hf1;by_cases hlt:i<n
  ·cases r with
   |nil=>simp at hr;omega
   |cons x r=>
    rw[Sto.zdT]at hb1;split at hb1
    ·cases hb1
    ·next hneg=>
     split at hb1
     ·cases hb1
     ·next y s2 hc=>
      split at hb1
      ·cases hb1
      ·next l2 s3 hrest=>
       simp only[zxL,zyH]at hb1;obtain ⟨rfl,rfl⟩:=hb1;have cx:wr.cell? ⟨fb,i,none⟩=some (.int .i64 x):=hf1.word (by rw[zxZ (by omega),hd];simp);have CC:=zkZ h1 hc;rw[show ((x.toNat:Nat):Int)=x by omega]at CC;have HC:=zab CC;have HR:=zab hrest;have HL:=zab hl;have HD:=zab hd;have HRL:Hid (r.length=n-(i+1)):=zab (by simp at hr;omega);have hb2:(0:Int)<=(i:Int):=by omega
       have hb3:(i:Int)<(n:Int):=by omega
       have HI:Hid (i<(d++x::r).length):=zab (by simp;omega);clear CC h1 hfr hrest hl hd hr hf1 hc;go_wp2_with fail
       refine HC.o.mono ?_;rintro e w2 ⟨rfl,h2,f2⟩;have H2:=zab h2;have FF2:=zab (HFF.o.fr f2);have F2:=zab (HF.o.trans (f2.to3 fb));have e1:=FF2.o.word (i:=i) (x:=x) (by rw[zxZ (by rw[HD.o];exact zxJ _),HD.o];simp);have g1:=FF2.o.1.frozen i;clear h2 f2 cx;go_wp2_with fail
       go_roundg (n-(i+1))
       case measure=>omega
       case rel=>
        have hset:(d++x::r).set i (y:Int)=(d++[(y:Int)])++r:=by
         rw[List.set_append_right _ _ (by rw[HD.o];exact zxJ _),HD.o];simp
        refine ⟨i+1,s2,d++[(y:Int)],r,l2,by go_num,by omega,zxJ _,H2.o.other hfm hfw i _,by simp;exact HD.o,HRL.o,?_,HR.o,by rw[HL.o];simp,F2.o.set _ _ (.inl (.inr (.inr rfl)))⟩;have:=FF2.o.set HI.o y;rw[hset]at this;exact this
  ·have hin:i=n:=by omega
   have HB1:Hid (s1=s'/\fns'=d++r):=zab (by
    have hr0:r=[]:=zyo (by omega);subst hr0;simp only[Sto.zdT,zxL,zyH]at hb1;exact ⟨hb1.2,by rw[hl,<-hb1.1]⟩)
   clear h1 hfr hb1 hin hd hr hf1 hl;go_wp2_with fail
   go_end0
   exact ⟨rfl,by rw[<-HB1.o.1];exact H1.o,by rw[HB1.o.2];exact HFF.o,HF.o⟩
structure Oth where
 pb:Value
 nf:Int
 main:Int
 fuel:Nat
 next:Int
 below:Int
def zec (o:Oth) (fv:Value):List Value:=[o.pb,.int .i64 o.nf,.int .i64 o.main,fv,.int .i64 o.fuel,.int .i64 o.next,.int .i64 o.below]
def zoN (w:World) (mb wb:Nat) (fns:List Int) (fv:Value):Prop:=(fv=.slice none 0 0/\fns=[])\/∃ fb cap sp,fv=.slice (some ⟨fb,0,none⟩) fns.length cap/\FAt w mb wb fb fns sp/\fns.length+sp.length=cap/\cap<=maxLen
def MB (mb wb:Nat) (fv:Value):Nat->Prop:=fun k=>k=mb\/k=wb\/fv.ownBlock=some k
theorem Fr.zcW(h:Fr (M2 mb wb) a b)(fv:Value):Fr (MB mb wb fv) a b:=h.mono (fun i hi=>by rcases hi with rfl|rfl;exact .inl rfl;exact .inr (.inl rfl))
theorem zoN.fr{w w':World}{mb wb:Nat}{fns:List Int}{fv:Value}(h:zoN w mb wb fns fv)(f:Fr (M2 mb wb) w w'):zoN w' mb wb fns fv:=by
 rcases h with h|⟨fb,cap,sp,h1,h2,h3⟩
 ·exact .inl h
 ·exact .inr ⟨fb,cap,sp,h1,h2.fr f,h3⟩
def Sto.scan (s:Sto) (at_:Nat):Nat->Option Sto
 |0=>none
 |k+1=>if at_<s.free then
   match s.ws[at_]? with
   |none=>none
   |some x=>if x<0\/9223372036854775808<=x\/s.ws.length<at_+1+(x/16%4096).toNat then none else
    match s.zfF (at_+1) (x/16%4096).toNat with
    |none=>none
    |some s1=>
     match s1.ws[at_]? with
     |none=>none
     |some y=>if y<0\/9223372036854775808<=y then none else Sto.scan s1 (at_+1+behind y) k
  else some s
def Sto.collect (s:Sto) (fns:List Int):Option (List Int × Sto):=
 if s.low<=s.half/\2*s.half<=s.ws.length/\s.low<=s.top/\s.top<=s.low+s.half then
  match s.zbQ.zfF s.zbQ.top (s.zbQ.low+s.zbQ.half-s.zbQ.top) with
  |none=>none
  |some s1=>
   match s1.zdT fns with
   |none=>none
   |some (fns',s2)=>
    match s2.scan s2.low (s2.ws.length+1) with
    |none=>none
    |some s3=>some (fns',s3)
 else none
theorem zg6 :∀ {n o:Nat},s.zfF o n=some s'->s'.ws.length=s.ws.length/\s'.low=s.low/\s'.half=s.half/\s'.top=s.top:=by
 intro n
 induction n generalizing s with
 |zero=>intro o h;simp only[Sto.zfF,zxL]at h;subst h;exact ⟨rfl,rfl,rfl,rfl⟩
 |succ n ih=>
  intro o h;rw[Sto.zfF]at h;split at h
  ·cases h
  ·split at h
   ·exact ih h
   ·split at h
    ·cases h
    ·next r s1 hc=>
     have h1:=ih h;have h2:=zhL hc;simp only[zx2]at h1;obtain ⟨x,y,b,_,_,_,_,_,_,_,⟨_,_,rfl⟩|⟨_,_,_,_,_,rfl⟩⟩:=zfw hc
     ·exact h1
     ·exact ⟨h1.1.trans h2,h1.2⟩
theorem zdS :∀ {fns:List Int} {s:Sto} {l:List Int},s.zdT fns=some (l,s')->s'.ws.length=s.ws.length/\s'.low=s.low/\s'.half=s.half/\s'.top=s.top/\l.length=fns.length:=by
 intro fns
 induction fns with
 |nil=>intro s l h;simp only[Sto.zdT,zxL,zyH]at h;obtain ⟨rfl,rfl⟩:=h;exact ⟨rfl,rfl,rfl,rfl,rfl⟩
 |cons x r ih=>
  intro s l h;rw[Sto.zdT]at h;split at h
  ·cases h
  ·split at h
   ·cases h
   ·next y s1 hc=>
    split at h
    ·cases h
    ·next l2 s2 hr=>
     simp only[zxL,zyH]at h;obtain ⟨rfl,rfl⟩:=h;have h1:=ih hr;have h2:=zhL hc;obtain ⟨x,y,b,_,_,_,_,_,_,_,⟨_,_,rfl⟩|⟨_,_,_,_,_,rfl⟩⟩:=zfw hc
     ·exact ⟨h1.1,h1.2.1,h1.2.2.1,h1.2.2.2.1,by simp[h1.2.2.2.2]⟩
     ·exact ⟨h1.1.trans h2,h1.2.1,h1.2.2.1,h1.2.2.2.1,by simp[h1.2.2.2.2]⟩
variable {o:Oth}
variable {fv:Value}
theorem zpF(h:SAt w mb wb (zec o fv) s)(hf:zoN w mb wb fns fv)(hb:s.zdT fns=some (fns',s'))(hfl:fns.length<=1000000):
  Calls Tryz.prog 199 #[.pointer (some ⟨mb,0,none⟩),fv] w fun e w'=>e=.returned (.tuple #[])/\SAt w' mb wb (zec o fv) s'/\zoN w' mb wb fns' fv/\Fr (MB mb wb fv) w w':=by
 rcases hf with ⟨rfl,rfl⟩|⟨fb,cap,sp,rfl,hf,hcap⟩
 ·simp only[Sto.zdT,zxL,zyH]at hb;obtain ⟨rfl,rfl⟩:=hb;exact (zkb (o:=0) (n:=0) (sp:=none) (cp:=0) h rfl (fun h=>absurd h (by omega)) (by omega)).mono fun e w' ⟨h1,h2,h3⟩=>⟨h1,h2,.inl ⟨rfl,rfl⟩,h3.zcW _⟩
 ·exact (zre h hf hb hfl).mono fun e w' ⟨h1,h2,h3,h4⟩=>⟨h1,h2,.inr ⟨fb,cap,sp,by rw[(zdS hb).2.2.2.2],h3,by rw[(zdS hb).2.2.2.2];exact hcap⟩,h4.mono (fun k hk=>by rcases hk with rfl|rfl|rfl;exact .inl rfl;exact .inr (.inl rfl);exact .inr (.inr rfl))⟩
theorem zwg{L lo hi:Nat}{l h:Int}(hl:l=lo)(hh:h=hi)(h1:lo<=hi)(h2:hi<=L):∀ W:World,(Instr.slice 76 (.slice (some ⟨wb,0,none⟩) L L) (some (.int .i64 l)) (some (.int .i64 h)) none).run Tryz.prog W=.ok (.slice (some ⟨wb,cutAt L lo,none⟩) (hi-lo) (L-lo)) W:=by
 intro W;subst hl hh;rw[run_slice_lh W 76 _ _ _ Tryz.underlying76 .i64 .i64 _ _ (by omega) (by omega) (by omega)];have e3:Tryz.prog.elem 76=2:=by kernel_rfl
 rw[e3,Tryz.sizeOf2];simp only[Result.andThen,sliced,zxY,zzn,zyL,zbb,zyC,cutAt];congr 2;split <;> rfl
theorem SAt.c8(h:SAt w mb wb (zec o fv) s):w.cell? ⟨mb,8,none⟩=some fv:=h.blk.cell 8
theorem zps(h:SAt w mb wb (zec o fv) s)(hf:zoN w mb wb fns fv)(hc:s.collect fns=some (fns',s'))(hfl:fns.length<=1000000):
  Calls Tryz.prog 125 #[.pointer (some ⟨mb,0,none⟩)] w fun e w'=>e=.returned (.tuple #[])/\SAt w' mb wb (zec o fv) s'/\zoN w' mb wb fns' fv/\Fr (MB mb wb fv) w w':=by
 unfold Sto.collect at hc;split at hc
 ·next hg=>
  split at hc
  ·cases hc
  ·next s1 hb1=>
   split at hc
   ·cases hc
   ·next fns2 s2 hb2=>
    split at hc
    ·cases hc
    ·next s3 hb3=>
     simp only[zxL,zyH]at hc;obtain ⟨rfl,rfl⟩:=hc;have CT:=zab (zul h hg.1 hg.2.1 hg.2.2.1 hg.2.2.2);have hl1:=zg6 hb1;have hl2:=zdS hb2;have HF:=zab hf;have hlen:=h.len;have ht1:s.zbQ.low+s.zbQ.half<=s.ws.length/\s.zbQ.top<=s.zbQ.low+s.zbQ.half/\s.zbQ.ws.length=s.ws.length:=by
      unfold Sto.zbQ;refine ⟨by simp only;omega,by simp only;omega,?_⟩;simp only;rw[zaX];rw[zyb,zyp];omega
     obtain ⟨t,htt⟩:∃ t,s.zbQ=t:=⟨_,rfl⟩;rw[htt]at hb1 CT ht1 hl1;obtain ⟨L,hL⟩:∃ L,s.ws.length=L:=⟨_,rfl⟩;rw[hL]at ht1 hlen;have HB1:=zab hb1;have HB2:=zab hb2;have HB3:=zab hb3;have HL:=zab (And.intro hl1 hl2);have hs1L:s1.ws.length=L:=by rw[hl1.1];exact ht1.2.2
     have hs2L:s2.ws.length=L:=by rw[hl2.1];exact hs1L
     have HS1:=zab hs1L;have HS2:=zab hs2L;have HTL:=zab ht1.2.2;have ht2:=ht1.1;have ht3:=ht1.2.1;have hst:s1.top=t.top:=hl1.2.2.2;have HST:=zab hst;clear h hf hg hl1 hl2 ht1 htt hL hb1 hb2 hb3 hs1L hs2L hst;go_enter Tryz.func125,Tryz.ntmps125
     go_wp2_with fail
     refine CT.o.mono ?_;rintro e w1 ⟨rfl,h1,f1⟩;have H1:=zab h1;have F1:=zab (f1.zcW fv);have HF1:=zab (HF.o.fr f1);have c0:w1.cell? ⟨mb,0,none⟩=some (.slice (some ⟨wb,0,none⟩) L L):=by rw[h1.c0,HTL.o]
     have c4:=h1.c4;have qsl:=zwg (wb:=wb) (L:=L) (lo:=t.top) (hi:=t.low+t.half) (l:=(t.top:Int)) (h:=(t.low:Int)+(t.half:Int)) rfl (by omega) ht3 ht2;have CE:=zab (fun n:Nat=>zhP (h1.drewN n));simp only[zym]at CE;clear CT h1 f1 HF;go_wp2_with fail
     go_region_held3 (fun W=>W.cell? ⟨mb,0,none⟩=some (.slice (some ⟨wb,0,none⟩) L L)/\W.cell? ⟨mb,4,none⟩=some (.int .i64 t.top)) (first|go_keep|(refine ⟨?_,?_⟩ <;> assumption)) (first
      |(go_at_call 78;refine (CE.o 1).mono ?_;rintro e w2 ⟨rfl,k2,hw2⟩;have H2:Hid (SAt w2 mb wb (zec o fv) t):=zab (by rw[hw2];exact (H1.o.drewN 1).drewN k2);have F2:Hid (Fr (M2 mb wb) w1 w2):=zab (by rw[hw2];exact ((Fr.refl _ _).drewN 1).drewN k2);have e0:w2.cell? ⟨mb,0,none⟩=some (.slice (some ⟨wb,0,none⟩) L L):=(by rw[H2.o.c0,HTL.o]);have e4:=H2.o.c4;clear hw2)
      |(go_at_call 199;refine (zkb H2.o HB1.o (fun hp=>by rw[zbS (by omega)]) (by rw[HTL.o];omega)).mono ?_;rintro e w3 ⟨rfl,h3,f3⟩;have H3:=zab h3;have F3:=zab (F2.o.trans f3);have d0:w3.cell? ⟨mb,0,none⟩=some (.slice (some ⟨wb,0,none⟩) L L):=(by rw[h3.c0,HS1.o]);have d4:w3.cell? ⟨mb,4,none⟩=some (.int .i64 t.top):=(by rw[h3.c4,HST.o]);clear h3 f3))
     all_goals
      have c8:=H3.o.c8;have CB:=zab (zpF H3.o (HF1.o.fr F3.o) HB2.o hfl);have F3':=zab (F1.o.trans (F3.o.zcW fv));clear c0 c4 d0 d4 qsl;go_wp2_with fail
      refine CB.o.mono ?_;rintro e w4 ⟨rfl,h4,hf4,f4⟩;have H4:=zab h4;have HF4:=zab hf4;have F4:=zab (F3'.o.trans f4);have c2:=h4.c2;clear h4 hf4 f4 c8;go_wp2_with fail
      go_loopg [2] L (fun gk av wr=>∃ (a:Nat) (q:Sto),av=.int .i64 a/\SAt wr mb wb (zec o fv) q/\q.ws.length=L/\q.scan a (gk+1)=some s3/\zoN wr mb wb fns2 fv/\Fr (MB mb wb fv) w wr)
      case atStart=>exact ⟨s2.low,s2,rfl,H4.o,HS2.o,by have:=HB3.o;rw[HS2.o]at this;exact this,HF4.o,F4.o⟩
      case round=>
       obtain ⟨a,q,rfl,hq,hqL,hsc,hfq,hfrq⟩:=hrel;have HQ:=zab hq;have HFQ:=zab hfq;have HFR:=zab hfrq;have HQL:=zab hqL;have c3:=hq.c3;rw[Sto.scan]at hsc;by_cases hlt:a<q.free
       ·rw[if_pos hlt]at hsc;split at hsc
        ·cases hsc
        ·next x hx=>
         split at hsc
         ·cases hsc
         ·next hg=>
          split at hsc
          ·cases hsc
          ·next q1 hbr=>
           split at hsc
           ·cases hsc
           ·next y hy=>
            split at hsc
            ·cases hsc
            ·next hyg=>
             have hcl:(a:Int)<(q.free:Int):=by omega
             have hx0:0<=x:=by omega
             have hx1:x<9223372036854775808:=by omega
             have hy0:0<=y:=by omega
             have hy1:y<9223372036854775808:=by omega
             obtain ⟨g,hgk⟩:∃ g,gk=g+1:=by
              cases gk with
              |zero=>simp[Sto.scan]at hsc
              |succ g=>exact ⟨g,rfl⟩
             obtain ⟨n,hn⟩:∃ n,(x/16%4096).toNat=n:=⟨_,rfl⟩;rw[hn]at hg hbr;have hfit:a+1+n<=L:=by omega
             have CFI:=zab (zcw hq a x hx hx0 hx1 (by rw[hn];omega));rw[hn,hqL]at CFI;have hq1:=zg6 hbr;have HQ1L:Hid (q1.ws.length=L):=zab (by rw[hq1.1];exact hqL);have HBR:=zab hbr;have HSC:=zab hsc;have HY:=zab hy;have SZ:=zab (fun W:World=>zlM y W hy0 hy1);rw[show (if y%16=0 then 2 else 1+y/16%4096)=((behind y+1:Nat):Int) by rw[behind];split <;> omega]at SZ;have hal:(a:Int)<(L:Int):=by omega
             have hbh:behind y<=4096:=by rw[behind];split <;> omega
             generalize behind y=by_ at SZ HSC hbh;simp only[zym,Int.natCast_one]at SZ;clear hq hfq hfrq hqL hsc hx hg hbr hy hyg hlt hq1 hn;go_wp2_with fail
             refine CFI.o.mono ?_;rintro e w5 ⟨rfl,k5,hw5⟩;have H5:Hid (SAt w5 mb wb (zec o fv) q):=zab (by rw[hw5];exact HQ.o.drewN k5);have F5:Hid (Fr (M2 mb wb) wr w5):=zab (by rw[hw5];exact (Fr.refl _ _).drewN k5);have CBR:=zab (zkb (cp:=L-(a+1)) (sp:=some ⟨wb,cutAt L (a+1),none⟩) H5.o HBR.o (fun hp=>by rw[zbS (by omega)]) (by rw[HQL.o];exact hfit));clear hw5 c3;go_wp2_with fail
             refine CBR.o.mono ?_;rintro e w6 ⟨rfl,h6,f6⟩;have H6:=zab h6;have F6:=zab (F5.o.trans f6);have d0:w6.cell? ⟨mb,0,none⟩=some (.slice (some ⟨wb,0,none⟩) L L):=by rw[h6.c0,HQ1L.o]
             have dy:=h6.word HY.o;clear h6 f6;go_wp2_with fail
             refine (SZ.o _).mono ?_;rintro e w7 ⟨rfl,rfl⟩;go_wp2_with fail
             go_roundg g
             case measure=>omega
             case rel=>exact ⟨a+1+by_,q1,by go_num,H6.o,HQ1L.o,by have:=HSC.o;rw[hgk]at this;exact this,HFQ.o.fr F6.o,HFR.o.trans (F6.o.zcW fv)⟩
       ·rw[if_neg hlt]at hsc;have HSC:Hid (q=s3):=zab (zxQ hsc);have hcl:¬ (a:Int)<(q.free:Int):=by omega
        clear hq hfq hfrq hqL hsc;go_wp2_with fail
        go_end0
        exact ⟨rfl,by rw[<-HSC.o];exact HQ.o,HFQ.o,HFR.o⟩
 ·cases hc
end Go.Proofs.YtgahgkddaljmkaaGreatDoor
